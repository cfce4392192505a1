/- Layer 7, the program's -/
import Derived.Test.YtjcmblbnbpikfaaGreatDoorPol
import Derived.Test.YtjcmblbnbpikfaaGreatDoorCheck
set_option linter.unusedSimpArgs false
set_option linter.unusedVariables false
namespace Go.Proofs.YtjcmblbnbpikfaaGreatDoor
open Lib (hid)
open Go.RowKit Go.PlainAid

def ofM (K : Bool) : List Mk → List Sp
 | [] => []
 | x :: r => if x.k = K then x.s :: ofM K r else ofM K r
theorem ofM_snoc (K : Bool) (l : List Mk) (x : Mk) : ofM K (l ++ [x]) = if x.k = K then ofM K l ++ [x.s] else ofM K l := by
 induction l with
 | nil => simp only [List.nil_append, ofM]
 | cons y r ih =>
  rw [List.cons_append, ofM, ih, ofM]
  by_cases h1 : y.k = K
  ·rw [if_pos h1, if_pos h1]
   by_cases h2 : x.k = K
   ·rw [if_pos h2, if_pos h2]; rfl
   ·rw [if_neg h2, if_neg h2]
  ·rw [if_neg h1, if_neg h1]
theorem ofM_len (K : Bool) : ∀ l : List Mk, (ofM K l).length ≤ l.length
 | [] => Nat.le_refl _
 | x :: r => by
  have := ofM_len K r
  rw [ofM]
  split
  ·simp only [List.length_cons]; omega
  ·simp only [List.length_cons]; omega
theorem sp_cells_at {W : World} (T : TypeId) (x : Sp) : ∀ j u, ([x].flatMap Sp.cells)[j]? = some u → (W.alloc (.cells #[.int .i64 x.f, .int .i64 x.t, .int .u8 x.b] T)).cell? ((⟨W.heap.size, 0, none⟩ : Addr).add j) = some u := by
 intro j u h
 rw [Addr.add_lit, Nat.zero_add]
 have hh := heap_alloc_new W (.cells #[.int .i64 x.f, .int .i64 x.t, .int .u8 x.b] T)
 simp only [World.cell?, hh]
 rw [← h]
 simp [Sp.cells]
set_option maxRecDepth 100000 in
set_option maxHeartbeats 2000000 in
theorem of_c (K : Bool) (l : List Mk) (hl : l.length ≤ 1000) (v : Value) (w : World) (hv : HoldsM w v l) : Calls Tryz.prog 57 #[v, .bool K] w (AnsS w (ofM K l)) := by
 obtain ⟨a1, c1, rfl⟩ := hv.form
 obtain ⟨n, hn⟩ : ∃ n, l.length = n := ⟨_, rfl⟩
 rw [hn] at hv hl ⊢
 have HV := hid hv
 have HN := hid hn
 clear hv hn
 obtain ⟨i0, hi, hz0, hz1, hz2⟩ := info_parts Tryz.infoS
 go_enter Tryz.func57, Tryz.ntmps57
 go_wp2
 go_loopg [5, 10] n (fun kx s5 s10 wr => ∃ (k : Nat), s10 = .int .i64 k ∧ k ≤ n ∧ n - k ≤ kx ∧ Hid (wr.ownsRow w.heap.size 58 3 s5 (ofM K (l.take k)).length ((ofM K (l.take k)).flatMap Sp.cells)) ∧ Below w.heap.size w wr)
 case atStart => exact ⟨0, by go_num, by omega, by omega, hid (by rw [List.take_zero]; exact World.ownsRow_nil _ _ _ _), Below.refl _ _⟩
 case round =>
  rename_i s5 _ _
  obtain ⟨k, rfl, hk, hkx, HO, hB⟩ := hrel
  by_cases hlt : k < n
  ·have hin : (0 : Int) ≤ (k : Int) ∧ (k : Int) < (n : Int) := by omega
   have hk1 : k < l.length := by have := HN.out; omega
   obtain ⟨g1, o1, d1, e1, _, c3⟩ := HV.out.some (by omega)
   obtain ⟨rfl, n1', rfl⟩ := Value.slice.inj e1
   clear e1 n1'
   obtain ⟨x0, x1, x2, x3⟩ := get4 c3 (List.getElem?_eq_getElem hk1)
   have hsn : l.take (k + 1) = l.take k ++ [l[k]] := List.take_succ_eq_append_getElem hk1
   have hof := ofM_snoc K (l.take k) l[k]
   rw [← hsn] at hof
   have hlen : (ofM K (l.take k)).length ≤ k := Nat.le_trans (ofM_len _ _) (List.length_take_le _ _)
   clear c3 hsn
   generalize l[k] = x at *
   clear hk1
   obtain ⟨⟨xf, xt, xb⟩, xk⟩ := x
   dsimp only at x0 x1 x2 x3 hof
   have x0 := kc hB x0
   have x1 := kc hB x1
   have x2 := kc hB x2
   have x3 := kc hB x3
   have hg := klt x0
   have hne : ¬ g1 = wr.heap.size := by omega
   have hsz := hB.size
   obtain ⟨p, cp, hform⟩ := own_form HO.out
   have HOF := hid hof
   clear hof
   cases hkk : (xk == K)
   ·have HF := hid (show ofM K (l.take (k + 1)) = ofM K (l.take k) from by rw [HOF.out, if_neg (by simpa using hkk)])
    clear hform
    go_wp2
    go_roundg (n - (k + 1))
    case measure => omega
    case rel => exact ⟨k + 1, by go_num, by omega, by omega, hid (by rw [HF.out]; exact own_below HO.out (by go_grown)), by go_grown⟩
   ·have HF := hid (show ofM K (l.take (k + 1)) = ofM K (l.take k) ++ [⟨xf, xt, xb⟩] from by rw [HOF.out, if_pos (by simpa using hkk)])
    subst hform
    have HW := hid hlen
    have HB := hid hB
    generalize hm : (ofM K (l.take k)).length = m at *
    have HM := hid hm
    clear hm
    go_wp2_with (at_builtin; refine wpList_append_own _ rfl _ _ 22 rfl w.heap.size 58 i0 _ 3 24 Tryz.underlying22 hi hz0 hz1 hz2 rfl (by decide) _ m _ rfl (own_below HO.out ?c0) ⟨wr.heap.size + 1, 0, none⟩ 1 1 ([(⟨xf, xt, xb⟩ : Sp)].flatMap Sp.cells) rfl rfl ?c1 ?c2 ?c3 ?c4 ?c5 ?_)
    case c0 => exact ((Below.refl _ wr).alloc (Nat.le_refl _) _).alloc (by simp) _
    case c1 =>
     have := sp_cells_at (W := wr.alloc (.cells #[.int .i64 xf, .int .i64 xt, .int .u8 xb, .bool xk] 65)) 58 ⟨xf, xt, xb⟩
     simpa using this
    case c2 => exact one_cells sp_one _
    case c3 => have := HW.out; unfold maxLen; omega
    case c4 => have := HW.out; omega
    case c5 => simp; omega
    intro v' w' hown' hgr _
    have hBw : Below w.heap.size w w' := Below.grown ((HB.out.alloc hsz _).alloc (by simp; omega) _) hgr (by simp; omega) (fun q hq => (HO.out.lt q hq).1)
    have HO' := hid hown'
    clear hown' hgr
    go_wp2
    go_roundg (n - (k + 1))
    case measure => omega
    case rel => exact ⟨k + 1, by go_num, by omega, by omega, hid (by rw [HF.out, List.length_append, List.flatMap_append, HM.out]; exact HO'.out), hBw⟩
  ·have HF := hid (show l.take k = l from List.take_of_length_le (by have := HN.out; omega))
   go_wp2
   go_ret
   have h := HO.out
   rw [HF.out] at h
   exact ⟨_, rfl, HoldsE.own sp_len h, fun g hg => (h.lt g hg).1, hB⟩
end Go.Proofs.YtjcmblbnbpikfaaGreatDoor
