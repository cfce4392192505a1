/- Layer 7, the program: a -/
import Derived.Test.YtjcmblbnbpikfaaGreatDoorJoinb
import Derived.Test.YtjcmblbnbpikfaaGreatDoorLine
import Derived.Test.YtjcmblbnbpikfaaGreatDoorWhole
import Derived.Test.YtjcmblbnbpikfaaGreatDoorPol
set_option linter.unusedSimpArgs false
set_option linter.unusedVariables false
namespace Go.Proofs.YtjcmblbnbpikfaaGreatDoor
open Lib (hid)
open Go.RowKit Go.PlainAid

def spanT (wd : List UInt8) (x : Sp) : List Tk := lineT wd [x.f, x.t, x.b]
def spansT (wd : List UInt8) (l : List Sp) : List Tk := l.flatMap (spanT wd)
def toksP (p : Pol) : List Tk := spansT secretL p.s ++ spansT sinkL p.k ++ lineT declL [p.d] ++ lineT traceL [p.t]
def printM (p : Pol) : List UInt8 × Int := if checkM p ≠ 0 then ([], checkM p) else joinR (toksP (sortP p)) none []
theorem chkR_len : ∀ (l acc : List Mk), chkR acc l = 0 → acc.length ≤ 64 → acc.length + l.length ≤ 64
 | [], acc, _, h => by simpa using h
 | x :: r, acc, h, ha => by
  unfold chkR at h
  by_cases h0 : addM x acc = 0
  ·simp only [h0] at h
   have h2 := addM_len h0 ha
   have := chkR_len r (acc ++ [x]) (by simpa using h) h2
   rw [List.length_append] at this
   simp only [List.length_cons, List.length_nil] at this ⊢
   omega
  ·simp only [h0] at h
   exact absurd h (by simpa using h0)
theorem check_len {p : Pol} (h : checkM p = 0) : p.s.length + p.k.length ≤ 64 := by
 unfold checkM at h
 split at h
 ·rename_i h0
  have := chkR_len _ _ h0 (by simp)
  unfold markS at this
  simpa using this
 ·rename_i h0
  exact absurd h h0
theorem spansT_snoc (wd : List UInt8) (l : List Sp) (x : Sp) : spansT wd (l ++ [x]) = spansT wd l ++ spanT wd x := by unfold spansT; rw [List.flatMap_append]; simp
theorem spansT_take {wd : List UInt8} {l : List Sp} {k : Nat} (h : k < l.length) : spansT wd (l.take (k + 1)) = spansT wd (l.take k) ++ spanT wd l[k] := by rw [List.take_succ_eq_append_getElem h, spansT_snoc]
theorem lineT_len (wd : List UInt8) (ns : List Int) : (lineT wd ns).length ≤ 2 + 2 * ns.length := by
 unfold lineT
 rw [List.length_append]
 have := lineP_len wd ns ns.length
 simp only [List.length_cons, List.length_nil]
 omega
theorem spansT_len (wd : List UInt8) : ∀ l : List Sp, (spansT wd l).length ≤ 8 * l.length
 | [] => by simp [spansT]
 | x :: r => by
  have := spansT_len wd r
  have h2 := lineT_len wd [x.f, x.t, x.b]
  unfold spansT at this ⊢
  rw [List.flatMap_cons, List.length_append]
  show (lineT wd [x.f, x.t, x.b]).length + _ ≤ _
  simp only [List.length_cons, List.length_nil] at h2 ⊢
  omega
theorem lineP_t {wd : List UInt8} {ns : List Int} (hw : wd.length ≤ 100) : ∀ k, ∀ x ∈ lineP wd ns k, x.t.length ≤ 100
 | 0, x, h => by rw [List.mem_singleton.1 h]; exact hw
 | k + 1, x, h => by
  unfold lineP at h
  rcases List.mem_append.1 h with h | h
  ·exact lineP_t hw k x h
  ·unfold numK at h
   split at h
   ·split at h
    ·simp at h
    ·simp only [List.mem_cons, List.not_mem_nil, or_false] at h
     rcases h with rfl | rfl <;> exact Nat.zero_le _
   ·split at h
    ·split at h
     ·simp at h
     ·simp only [List.mem_cons, List.not_mem_nil, or_false] at h
      rcases h with rfl | rfl
      ·show bitsK.length ≤ 100; decide
      ·exact Nat.zero_le _
    ·simp only [List.mem_cons, List.not_mem_nil, or_false] at h
     rw [h]; exact Nat.zero_le _
theorem lineT_t {wd : List UInt8} {ns : List Int} (hw : wd.length ≤ 100) : ∀ x ∈ lineT wd ns, x.t.length ≤ 100 := by
 intro x h
 unfold lineT at h
 rcases List.mem_append.1 h with h | h
 ·exact lineP_t hw _ x h
 ·rw [List.mem_singleton.1 h]; exact Nat.zero_le _
theorem spansT_t {wd : List UInt8} {l : List Sp} (hw : wd.length ≤ 100) : ∀ x ∈ spansT wd l, x.t.length ≤ 100 := by
 intro x h
 obtain ⟨y, _, hy⟩ := List.mem_flatMap.1 h
 exact lineT_t hw x hy
theorem sortS_mem {l : List Sp} {x : Sp} (h : x ∈ sortS l) : x ∈ l := by
 have e := sortS_same l x.f
 have : x ∈ (sortS l).filter (fun y => decide (y.f = x.f)) := List.mem_filter.2 ⟨h, by simp⟩
 rw [e] at this
 exact (List.mem_filter.1 this).1
theorem wpList_toks {ops : Array Oper} {rest : List Oper} {o : Oper} {a : Act} {Q : Exit → Act → World → Prop} {W0 w : World} {B : Nat} (hgd : o.guard = none) (s x : Operand) (ho : o.op = .call { callee := .builtin .append, args := #[s, x], argTypes := #[56, 56] })
  (v : Value) (acc : List Tk) (m : Nat) (hm : acc.length = m) (hs : a.eval s = v) (hown : w.ownsRow B 81 5 v m (cellsT acc)) (l : List Tk) (B2 : Nat) (X : Value) (k : Nat) (hk : l.length = k) (hx : a.eval x = X) (hX : w.ownsRow B2 81 5 X k (cellsT l)) (hlen : m + k ≤ 100000) (hB : B ≤ w.heap.size) (hbl : Below B W0 w)
  (h : ∀ v' w', w'.ownsRow B 81 5 v' (m + k) (cellsT (acc ++ l)) → Below B W0 w' → wpList Tryz.prog ops Q rest (a.put o.dst v') w') :
  wpList Tryz.prog ops Q (o :: rest) a w := by
 subst hm; subst hk
 obtain ⟨i0, hi, hz0, hz1, hz2⟩ := info_parts Tryz.infoTk
 refine wpList_append_row hgd s x 56 ho B 81 i0 _ 5 48 Tryz.underlying56 hi hz0 hz1 hz2 rfl (by decide) v acc.length (cellsT acc) hs hown B2 X l.length (cellsT l) hx hX (cellsT_one_cell _) (by unfold maxLen; omega) (by omega) hB ?_
 intro v' w' h1 h2
 exact h v' w' (by rw [cellsT_append]; exact h1) (Below.grown hbl h2 hB (fun k hk => (hown.lt k hk).1))
theorem get_one {x : Int} {w : World} {g : Nat} (h0 : w.cell? ⟨g, 0, none⟩ = some (.int .i64 x)) : ∀ (j : Nat) (y : Int), [x][j]? = some y → w.cell? ⟨g, j, none⟩ = some (.int .i64 y)
 | 0, y, h => by cases h; exact h0
 | j + 1, y, h => by simp at h
theorem get_three {x y z : Int} {w : World} {g : Nat} (h0 : w.cell? ⟨g, 0, none⟩ = some (.int .i64 x)) (h1 : w.cell? ⟨g, 1, none⟩ = some (.int .i64 y)) (h2 : w.cell? ⟨g, 2, none⟩ = some (.int .i64 z)) : ∀ (j : Nat) (u : Int), [x, y, z][j]? = some u → w.cell? ⟨g, j, none⟩ = some (.int .i64 u)
 | 0, u, h => by cases h; exact h0
 | 1, u, h => by cases h; exact h1
 | 2, u, h => by cases h; exact h2
 | j + 3, u, h => by simp at h
set_option maxRecDepth 100000 in
set_option maxHeartbeats 4000000 in
theorem print_c (p : Pol) (hl : p.s.length ≤ 1000 ∧ p.k.length ≤ 1000) (hb8 : (∀ x ∈ p.s, 0 ≤ x.b ∧ x.b ≤ 255) ∧ ∀ x ∈ p.k, 0 ≤ x.b ∧ x.b ≤ 255) (v : Value) (w : World) (hv : HoldsP w v p) (hT : w.cell? ⟨5, 15, none⟩ = some (.int .u8 4)) :
  Calls Tryz.prog 10 #[v] w fun e w' => e = .returned (.tuple #[.string (txB (printM p).1), .int .i64 (printM p).2]) ∧ Below w.heap.size w w' := by
 have HP := hid hv
 have HC := hid (fun W (hb : Below w.heap.size w W) => check_c p hl v W (hv.below hb))
 have HS := hid (fun W (hb : Below w.heap.size w W) => sorted_c p ⟨by omega, by omega⟩ v W (hv.below hb))
 unfold AnsP sortP at HS
 dsimp only at HS
 obtain ⟨v1, v2, rfl, h1, h2⟩ := hv
 obtain ⟨a1, c1, rfl⟩ := h1.form
 obtain ⟨a2, c2, rfl⟩ := h2.form
 by_cases hE : checkM p = 0
 ·have HE := hid hE
  have hlen := check_len hE
  have HR := hid (show printM p = joinR (spansT secretL (sortS p.s) ++ spansT sinkL (sortS p.k) ++ lineT declL [p.d] ++ lineT traceL [p.t]) none [] by unfold printM; rw [if_neg (by rw [hE]; simp)]; rfl)
  rw [hE] at HC
  have HL := hid hlen
  have HB1 := hid (show ∀ x ∈ sortS p.s, 0 ≤ x.b ∧ x.b ≤ 255 from fun x hx => hb8.1 x (sortS_mem hx))
  have HB2 := hid (show ∀ x ∈ sortS p.k, 0 ≤ x.b ∧ x.b ≤ 255 from fun x hx => hb8.2 x (sortS_mem hx))
  have e1 := sortS_len p.s
  have e2 := sortS_len p.k
  generalize sortS p.s = L1 at *
  generalize sortS p.k = L2 at *
  obtain ⟨n1, hn1⟩ : ∃ n, L1.length = n := ⟨_, rfl⟩
  obtain ⟨n2, hn2⟩ : ∃ n, L2.length = n := ⟨_, rfl⟩
  have HN := hid (show L1.length = n1 ∧ L2.length = n2 ∧ n1 + n2 ≤ 64 by omega)
  rw [← e1, hn1] at HC HS ⊢
  rw [← e2, hn2] at HC HS ⊢
  obtain ⟨ps, pk, pd, pt⟩ := p
  dsimp only at HC HS HR ⊢
  clear h1 h2 hE hlen e1 e2 hn1 hn2 hl hb8
  generalize printM ⟨ps, pk, pd, pt⟩ = PR at *
  go_enter Tryz.func10, Tryz.ntmps10
  go_wp2_with fail
  ((with_reducible refine (HC.out _ ((Below.refl _ w).alloc (Nat.le_refl _) _)).mono ?_); rintro _ u1 ⟨rfl, hb⟩)
  have T : CF u1 w.heap.size 0 (.slice a1 n1 c1) ∧ CF u1 w.heap.size 1 (.slice a2 n2 c2) ∧ CF u1 w.heap.size 2 (.int .i64 pd) ∧ CF u1 w.heap.size 3 (.int .i64 pt) := by
    refine ⟨⟨?_, ?_⟩, ⟨?_, ?_⟩, ⟨?_, ?_⟩, ⟨?_, ?_⟩⟩ <;> first | (refine kc hb ?_ <;> (go_simp; first | done | rfl)) | (refine kfz hb ?_ ?_ <;> first | (go_size; done) | (go_simp; done))
  have hz := hb.size
  (try simp only [szA] at hz)
  have L : w.heap.size < u1.heap.size := by omega
  have hB' : Below w.heap.size w u1 := by
    refine kb ?_ hb
    go_grown
  clear hb hz
  obtain ⟨⟨hp_0, fp_0⟩, ⟨hp_1, fp_1⟩, ⟨hp_2, fp_2⟩, ⟨hp_3, fp_3⟩⟩ := T
  have hlp := L; clear L
  obtain ⟨hnp0, hnp1, hkp1, hnp2, hkp2⟩ := ap0 hlp
  have hB := hB'; clear hB'
  have hsz := hB.size
  have hu1 : w.heap.size + 1 ≤ u1.heap.size := hlp
  go_wp2_with fail
  ((with_reducible refine (HS.out _ hB).mono ?_); rintro _ u2 ⟨x1, x2, rfl, hx1, hx2, hy1, hy2, hb⟩)
  have hs_u2 := hid hb
  have T : CF u2 w.heap.size 0 (.slice a1 n1 c1) ∧ CF u2 w.heap.size 1 (.slice a2 n2 c2) ∧ CF u2 w.heap.size 2 (.int .i64 pd) ∧ CF u2 w.heap.size 3 (.int .i64 pt) := by
    refine ⟨⟨?_, ?_⟩, ⟨?_, ?_⟩, ⟨?_, ?_⟩, ⟨?_, ?_⟩⟩ <;> first | (refine kc hb ?_ <;> (go_simp; first | done | rfl)) | (refine kfz hb ?_ ?_ <;> first | (go_size; done) | (go_simp; done))
  have hz := hb.size
  (try simp only [szA] at hz)
  have L : w.heap.size < u2.heap.size := by omega
  have hB' : Below w.heap.size w u2 := by
    refine kb ?_ hb
    go_grown
  clear hp_0 fp_0 hp_1 fp_1 hp_2 fp_2 hp_3 fp_3 hlp hnp0 hnp1 hkp1 hnp2 hkp2 hB hsz
  clear hb hz
  obtain ⟨⟨hp_0, fp_0⟩, ⟨hp_1, fp_1⟩, ⟨hp_2, fp_2⟩, ⟨hp_3, fp_3⟩⟩ := T
  have hlp := L; clear L
  obtain ⟨hnp0, hnp1, hkp1, hnp2, hkp2⟩ := ap0 hlp
  have hB := hB'; clear hB'
  have hsz := hB.size
  obtain ⟨a3, c3, rfl⟩ := hx1.form
  obtain ⟨a4, c4, rfl⟩ := hx2.form
  rw [HN.out.1] at hx1 hy1 ⊢
  rw [HN.out.2.1] at hx2 hy2 ⊢
  have hy1' : ∀ g, (Value.slice a3 n1 c3).ownBlock = some g → w.heap.size + 1 ≤ g := fun g h => Nat.le_trans hu1 (hy1 g h)
  have hy2' : ∀ g, (Value.slice a4 n2 c4).ownBlock = some g → w.heap.size + 1 ≤ g := fun g h => Nat.le_trans hu1 (hy2 g h)
  have h1f : HoldsS ((((u2.setCell ⟨w.heap.size, 0, none⟩ (.slice a3 n1 c3)).setCell ⟨w.heap.size, 1, none⟩ (.slice a4 n2 c4)).setCell ⟨w.heap.size, 2, none⟩ (.int .i64 pd)).setCell ⟨w.heap.size, 3, none⟩ (.int .i64 pt)) (.slice a3 n1 c3) L1 := by (repeat (refine holdsE_set (B := w.heap.size + 1) ?_ hy1' (by simp) _)); exact hx1
  have h2f : HoldsS ((((u2.setCell ⟨w.heap.size, 0, none⟩ (.slice a3 n1 c3)).setCell ⟨w.heap.size, 1, none⟩ (.slice a4 n2 c4)).setCell ⟨w.heap.size, 2, none⟩ (.int .i64 pd)).setCell ⟨w.heap.size, 3, none⟩ (.int .i64 pt)) (.slice a4 n2 c4) L2 := by (repeat (refine holdsE_set (B := w.heap.size + 1) ?_ hy2' (by simp) _)); exact hx2
  have HF := hid (And.intro h1f h2f)
  clear hx1 hx2 hy1 hy2 hy1' hy2' h1f h2f
  go_upto_region 5 with fail
  refine wp_pin (fun W => W.cell? ⟨w.heap.size, 0, none⟩ = some (.slice a3 n1 c3) ∧ W.cell? ⟨w.heap.size, 1, none⟩ = some (.slice a4 n2 c4) ∧ W.cell? ⟨w.heap.size, 2, none⟩ = some (.int .i64 pd) ∧ W.cell? ⟨w.heap.size, 3, none⟩ = some (.int .i64 pt) ∧ Below w.heap.size w W ∧ w.heap.size < W.heap.size ∧ HoldsS W (.slice a3 n1 c3) L1 ∧ HoldsS W (.slice a4 n2 c4) L2) ⟨by go_simp, by go_simp, by go_simp, by go_simp, (((hB.setCell (by simp) _).setCell (by simp) _).setCell (by simp) _).setCell (by simp) _, by simp only [World.size_setCell]; omega, HF.out.1, HF.out.2⟩ ?_
  clear HF hs_u2 HS HC HP hu1 hp_0 hp_1 hp_2 hp_3 fp_0 fp_1 fp_2 fp_3 hlp hnp0 hnp1 hkp1 hnp2 hkp2 hB hsz
  rintro z ⟨hp_0, hp_1, hp_2, hp_3, hB, hlp, h1f, h2f⟩
  have HX1 := hid h1f
  have HX2 := hid h2f
  have HTz := hid (kc hB hT)
  have HBz := hid hB
  clear h1f h2f
  go_wp2
  go_loopg [5, 20] n1 (fun kx s5 s20 wr => ∃ (k : Nat), s20 = .int .i64 k ∧ k ≤ n1 ∧ n1 - k ≤ kx ∧ Hid (wr.ownsRow z.heap.size 81 5 s5 (spansT secretL (L1.take k)).length (cellsT (spansT secretL (L1.take k)))) ∧ Below z.heap.size z wr)
  case atStart => exact ⟨0, by go_num, by omega, by omega, hid (by rw [List.take_zero]; exact World.ownsRow_nil _ _ _ _), Below.refl _ _⟩
  case round =>
   obtain ⟨k, rfl, hk, hkx, HO, hBr⟩ := hrel
   have hsr := hBr.size
   obtain ⟨p5, c5, rfl⟩ := own_form HO.out
   obtain ⟨mm, hmm⟩ : ∃ m, (spansT secretL (L1.take k)).length = m := ⟨_, rfl⟩
   rw [hmm] at HO ⊢
   have HMM := hid hmm
   clear hmm
   have hnb : n1 ≤ 64 := by have := HN.out; omega
   by_cases hlt : k < n1
   ·have hd : decide ((k : Int) < (n1 : Int)) = true := decide_eq_true (by omega)
    have hin : (0 : Int) ≤ (k : Int) ∧ (k : Int) < (n1 : Int) := by omega
    have hk1 : k < L1.length := by have := HN.out; omega
    obtain ⟨g1, o1, d1, e1, _, c3'⟩ := (HX1.out.below hBr).some (by omega)
    obtain ⟨rfl, n1', rfl⟩ := Value.slice.inj e1
    clear e1 n1'
    obtain ⟨x0, x1, x2⟩ := get3 c3' (List.getElem?_eq_getElem hk1)
    have hby := HB1.out L1[k] (List.getElem_mem hk1)
    have HSt := hid (spansT_take (wd := secretL) hk1)
    have HLn := hid (show (spansT secretL (L1.take k)).length ≤ 1100 ∧ (spanT secretL L1[k]).length ≤ 8 by
     have h1 := spansT_len secretL (L1.take k)
     have h2 := lineT_len secretL [L1[k].f, L1[k].t, L1[k].b]
     have h3 : (L1.take k).length ≤ 64 := by rw [List.length_take]; omega
     skip
     refine ⟨?_, by unfold spanT; simpa using h2⟩
     omega)
    clear c3'
    generalize L1[k] = x at *
    clear hk1
    obtain ⟨xf, xt, xb⟩ := x
    dsimp only at x0 x1 x2 hby HSt HLn
    have hg := klt x0
    have hne : ¬ g1 = wr.heap.size := by omega
    have hne2 : ¬ g1 = wr.heap.size + 1 := by omega
    have hxb : IntKind.i64.wrap xb = xb := IntWalk.i64_in _ (by omega)
    have HBR := hid hBr
    have HL := hid (fun W hc => (show Calls Tryz.prog 24 #[.string ⟨#[115, 101, 99, 114, 101, 116]⟩, .slice (some ⟨wr.heap.size + 1, 0, none⟩) 3 3] W (AnsT W (spanT secretL ⟨xf, xt, xb⟩)) from line_fc secretL [xf, xt, xb] (by simp) (wr.heap.size + 1) 3 W hc))
    unfold AnsT at HL
    go_wp2_with fail
    refine (HL.out _ (get_three (by go_simp) (by go_simp) (by go_simp))).mono ?_
    rintro _ y ⟨vl, rfl, hown, hb⟩
    obtain ⟨p7, c7, rfl⟩ := own_form hown
    have hwy : Below wr.heap.size wr y := (((Below.refl _ wr).alloc (Nat.le_refl _) _).alloc (by simp) _).trans (hb.mono (by simp; omega))
    have HO1 := hid (own_below HO.out hwy)
    have HYY := hid hown
    have hzy : z.heap.size ≤ y.heap.size := Nat.le_trans hsr hwy.size
    have HBy := hid (HBR.out.trans (hwy.mono hsr))
    clear hown hb hwy
    go_wp2_with (at_builtin; refine wpList_toks (W0 := z) (B := z.heap.size) rfl _ _ rfl _ (spansT secretL (L1.take k)) mm HMM.out rfl HO1.out (spanT secretL ⟨xf, xt, xb⟩) _ _ _ rfl rfl HYY.out (by have := HLn.out; rw [HMM.out] at this; omega) hzy HBy.out ?_)
    intro v2 y2 hown2 hb2
    have HO2 := hid hown2
    clear hown2
    go_wp2
    go_roundg (n1 - (k + 1))
    case measure => omega
    case rel => exact ⟨k + 1, by go_num, by omega, by omega, hid (by rw [HSt.out, List.length_append, HMM.out]; exact HO2.out), hb2⟩
   ·have hd : decide ((k : Int) < (n1 : Int)) = false := decide_eq_false (by omega)
    have HE1 := hid (show L1.take k = L1 from List.take_of_length_le (by have := HN.out; omega))
    have HO3 := hid (show wr.ownsRow z.heap.size 81 5 (.slice p5 mm c5) (spansT secretL L1).length (cellsT (spansT secretL L1)) by have h1 := HO.out; have h2 := HMM.out; rw [HE1.out] at h1 h2; rw [h2]; exact h1)
    have hpr_1 := kc hBr hp_1
    have HBr := hid hBr
    clear HO HMM
    go_wp2
    clear hd hkx hlt hk hsr hBr hpr_1
    obtain ⟨we, rfl⟩ : ∃ W, W = wr := ⟨wr, rfl⟩
    go_loopg [5, 39] n2 (fun kx s5 s39 wr => ∃ (k : Nat), s39 = .int .i64 k ∧ k ≤ n2 ∧ n2 - k ≤ kx ∧ Hid (wr.ownsRow z.heap.size 81 5 s5 (spansT secretL L1 ++ spansT sinkL (L2.take k)).length (cellsT (spansT secretL L1 ++ spansT sinkL (L2.take k)))) ∧ Below z.heap.size z wr)
    case atStart => exact ⟨0, by go_num, by omega, by omega, hid (by rw [List.take_zero]; show World.ownsRow _ _ _ _ _ (spansT secretL L1 ++ []).length (cellsT (spansT secretL L1 ++ [])); rw [List.append_nil]; exact HO3.out), HBr.out⟩
    case round =>
     obtain ⟨k, rfl, hk, hkx, HO, hBr⟩ := hrel
     have hsr := hBr.size
     obtain ⟨p5, c5, rfl⟩ := own_form HO.out
     obtain ⟨mm, hmm⟩ : ∃ m, (spansT secretL L1 ++ spansT sinkL (L2.take k)).length = m := ⟨_, rfl⟩
     rw [hmm] at HO ⊢
     have HMM := hid hmm
     clear hmm
     have hnb : n2 ≤ 64 := by have := HN.out; omega
     by_cases hlt : k < n2
     ·have hd : decide ((k : Int) < (n2 : Int)) = true := decide_eq_true (by omega)
      have hin : (0 : Int) ≤ (k : Int) ∧ (k : Int) < (n2 : Int) := by omega
      have hk1 : k < L2.length := by have := HN.out; omega
      obtain ⟨g1, o1, d1, e1, _, c3'⟩ := (HX2.out.below hBr).some (by omega)
      obtain ⟨rfl, n1', rfl⟩ := Value.slice.inj e1
      clear e1 n1'
      obtain ⟨x0, x1, x2⟩ := get3 c3' (List.getElem?_eq_getElem hk1)
      have hby := HB2.out L2[k] (List.getElem_mem hk1)
      have HSt := hid (spansT_take (wd := sinkL) hk1)
      have HLn := hid (show (spansT secretL L1 ++ spansT sinkL (L2.take k)).length ≤ 1100 ∧ (spanT sinkL L2[k]).length ≤ 8 by
       have h1 := spansT_len sinkL (L2.take k)
       have h2 := lineT_len sinkL [L2[k].f, L2[k].t, L2[k].b]
       have h3 : (L2.take k).length ≤ 64 := by rw [List.length_take]; omega
       have h4 := spansT_len secretL L1
       have h5 := HN.out
       refine ⟨?_, by unfold spanT; simpa using h2⟩
       rw [List.length_append]; omega)
      clear c3'
      generalize L2[k] = x at *
      clear hk1
      obtain ⟨xf, xt, xb⟩ := x
      dsimp only at x0 x1 x2 hby HSt HLn
      have hg := klt x0
      have hne : ¬ g1 = wr.heap.size := by omega
      have hne2 : ¬ g1 = wr.heap.size + 1 := by omega
      have hxb : IntKind.i64.wrap xb = xb := IntWalk.i64_in _ (by omega)
      have HBR := hid hBr
      have HL := hid (fun W hc => (show Calls Tryz.prog 24 #[.string ⟨#[115, 105, 110, 107]⟩, .slice (some ⟨wr.heap.size + 1, 0, none⟩) 3 3] W (AnsT W (spanT sinkL ⟨xf, xt, xb⟩)) from line_fc sinkL [xf, xt, xb] (by simp) (wr.heap.size + 1) 3 W hc))
      unfold AnsT at HL
      go_wp2_with fail
      refine (HL.out _ (get_three (by go_simp) (by go_simp) (by go_simp))).mono ?_
      rintro _ y ⟨vl, rfl, hown, hb⟩
      obtain ⟨p7, c7, rfl⟩ := own_form hown
      have hwy : Below wr.heap.size wr y := (((Below.refl _ wr).alloc (Nat.le_refl _) _).alloc (by simp) _).trans (hb.mono (by simp; omega))
      have HO1 := hid (own_below HO.out hwy)
      have HYY := hid hown
      have hzy : z.heap.size ≤ y.heap.size := Nat.le_trans hsr hwy.size
      have HBy := hid (HBR.out.trans (hwy.mono hsr))
      clear hown hb hwy
      go_wp2_with (at_builtin; refine wpList_toks (W0 := z) (B := z.heap.size) rfl _ _ rfl _ (spansT secretL L1 ++ spansT sinkL (L2.take k)) mm HMM.out rfl HO1.out (spanT sinkL ⟨xf, xt, xb⟩) _ _ _ rfl rfl HYY.out (by have := HLn.out; rw [HMM.out] at this; omega) hzy HBy.out ?_)
      intro v2 y2 hown2 hb2
      have HO2 := hid hown2
      clear hown2
      go_wp2
      go_roundg (n2 - (k + 1))
      case measure => omega
      case rel => exact ⟨k + 1, by go_num, by omega, by omega, hid (by rw [HSt.out, show (spansT secretL L1 ++ (spansT sinkL (L2.take k) ++ spanT sinkL ⟨xf, xt, xb⟩)).length = mm + (spanT sinkL ⟨xf, xt, xb⟩).length by rw [← List.append_assoc, List.length_append, HMM.out]]; first | exact HO2.out | (rw [← List.append_assoc]; exact HO2.out)), hb2⟩

     ·have hd : decide ((k : Int) < (n2 : Int)) = false := decide_eq_false (by omega)
      have HE2 := hid (show L2.take k = L2 from List.take_of_length_le (by have := HN.out; omega))
      have HO4 := hid (show wr.ownsRow z.heap.size 81 5 (.slice p5 mm c5) mm (cellsT (spansT secretL L1 ++ spansT sinkL L2)) by have h1 := HO.out; rw [HE2.out] at h1; exact h1)
      have hm3 : mm = (spansT secretL L1 ++ spansT sinkL L2).length := by rw [← HMM.out, HE2.out]
      have hpr_2 := kc hBr hp_2
      have hpr_3 := kc hBr hp_3
      have HBr2 := hid hBr
      have HTr := hid (kc hBr HTz.out)
      generalize hAL : spansT secretL L1 ++ spansT sinkL L2 = AL at *
      have HAL := hid hAL
      have hml : mm ≤ 1100 := by
       have h1 := spansT_len secretL L1
       have h2 := spansT_len sinkL L2
       have h3 := HN.out
       rw [hm3, ← hAL, List.length_append]
       omega
      have HD := hid (fun W g hc => (show Calls Tryz.prog 24 #[.string ⟨#[100, 101, 99, 108, 97, 115, 115, 105, 102, 121]⟩, .slice (some ⟨g, 0, none⟩) 1 1] W (AnsT W (lineT declL [pd])) from line_fc declL [pd] (by simp) g 1 W hc))
      have HTc := hid (fun W g hc => (show Calls Tryz.prog 24 #[.string ⟨#[116, 114, 97, 99, 101]⟩, .slice (some ⟨g, 0, none⟩) 1 1] W (AnsT W (lineT traceL [pt])) from line_fc traceL [pt] (by simp) g 1 W hc))
      have hd1 := lineT_len declL [pd]
      have hd2 := lineT_len traceL [pt]
      have hlr : w.heap.size < wr.heap.size := by omega
      have hnr : ¬ w.heap.size = wr.heap.size := by omega
      unfold AnsT at HD HTc
      have HM3 := hid hm3.symm
      clear HO HMM HE2 hAL hkx hk hm3
      go_wp2_with fail
      refine (HD.out _ wr.heap.size (get_one (by go_simp))).mono ?_
      rintro _ y ⟨vl, rfl, hown, hb⟩
      obtain ⟨p7, c7, rfl⟩ := own_form hown
      have hwy : Below wr.heap.size wr y := ((Below.refl _ wr).alloc (Nat.le_refl _) _).trans (hb.mono (by simp))
      have HO5 := hid (own_below HO4.out hwy)
      have HY5 := hid hown
      have hzy : z.heap.size ≤ y.heap.size := Nat.le_trans hsr hwy.size
      have HBy := hid (HBr2.out.trans (hwy.mono hsr))
      clear hown hb hwy hBr
      go_wp2_with (at_builtin; refine wpList_toks (W0 := z) (B := z.heap.size) rfl _ _ rfl _ AL mm HM3.out rfl HO5.out (lineT declL [pd]) _ _ _ rfl rfl HY5.out (by simp only [List.length_cons, List.length_nil] at hd1; omega) hzy HBy.out ?_)
      intro v6 y6 hown6 hb6
      obtain ⟨m6, hm6⟩ : ∃ m, mm + (lineT declL [pd]).length = m := ⟨_, rfl⟩
      rw [hm6] at hown6
      obtain ⟨p8, c8, rfl⟩ := own_form hown6
      have HO6 := hid hown6
      have HB6 := hid hb6
      have HM6 := hid (show (AL ++ lineT declL [pd]).length = m6 ∧ m6 ≤ 1104 by rw [List.length_append, HM3.out, hm6]; simp only [List.length_cons, List.length_nil] at hd1; exact ⟨rfl, by omega⟩)
      have hpr6 := kc hb6 hp_3
      have hs6 := hb6.size
      have hlr6 : w.heap.size < y6.heap.size := by omega
      have hnr6 : ¬ w.heap.size = y6.heap.size := by omega
      clear hown6 hb6 hm6
      go_wp2_with fail
      refine (HTc.out _ y6.heap.size (get_one (by go_simp))).mono ?_
      rintro _ q ⟨vl2, rfl, hown, hb⟩
      obtain ⟨p9, c9, rfl⟩ := own_form hown
      have hwy : Below y6.heap.size y6 q := ((Below.refl _ y6).alloc (Nat.le_refl _) _).trans (hb.mono (by simp))
      have HO7 := hid (own_below HO6.out hwy)
      have HY7 := hid hown
      have hzq : z.heap.size ≤ q.heap.size := Nat.le_trans hs6 hwy.size
      have HBq := hid (HB6.out.trans (hwy.mono hs6))
      clear hown hb hwy
      go_wp2_with (at_builtin; refine wpList_toks (W0 := z) (B := z.heap.size) rfl _ _ rfl _ (AL ++ lineT declL [pd]) m6 HM6.out.1 rfl HO7.out (lineT traceL [pt]) _ _ _ rfl rfl HY7.out (by have := HM6.out.2; simp only [List.length_cons, List.length_nil] at hd2; omega) hzq HBq.out ?_)
      intro v8 y8 hown8 hb8
      have HJ := hid (joinb_c (AL ++ lineT declL [pd] ++ lineT traceL [pt]) (by
       have := HM6.out
       simp only [List.length_cons, List.length_nil] at hd2
       rw [List.length_append, this.1]
       omega) (by
       intro x hx
       rw [← HAL.out] at hx
       rcases List.mem_append.1 hx with hx | hx
       ·rcases List.mem_append.1 hx with hx | hx
        ·rcases List.mem_append.1 hx with hx | hx
         ·exact spansT_t (by decide) x hx
         ·exact spansT_t (by decide) x hx
        ·exact lineT_t (by decide) x hx
       ·exact lineT_t (by decide) x hx) v8 y8 (holdsT_own (by rw [List.length_append, HM6.out.1]; first | exact hown8 | (rw [List.append_assoc]; exact hown8))) (kc hb8 HTz.out))
      have HB8 := hid (HBz.out.trans (hb8.mono (by omega)))
      rw [← HR.out] at HJ
      obtain ⟨p10, c10, rfl⟩ := own_form hown8
      clear hown8 hb8
      generalize mm = m0 at *
      go_wp2_with fail
      refine HJ.out.mono ?_
      rintro _ yf ⟨rfl, hbf⟩
      have HBF := hid (HB8.out.trans (hbf.mono HB8.out.size))
      obtain ⟨PR1, PR2⟩ := PR
      dsimp only
      obtain ⟨PT, hPT⟩ : ∃ PT, txB PR1 = PT := ⟨_, rfl⟩
      have HPT := hid hPT
      rw [hPT]
      clear hPT
      go_wp2
      refine bodyPost_ret (v := .tuple #[.string PT, .int .i64 PR2]) (by simp [results, Tryz.results10, go_sem] <;> first | done | rfl) rfl ⟨by rw [← HPT.out], HBF.out⟩
 ·have HR := hid (show printM p = ([], checkM p) by unfold printM; rw [if_pos hE])
  generalize checkM p = E at *
  rw [HR.out]
  have hd : (E != 0) = true := by simp [bne, hE]
  have hd2 : decide (E = 0) = false := decide_eq_false hE
  clear h1 h2 HS HP hb8 hl HR
  generalize p.s.length = n1 at *
  generalize p.k.length = n2 at *
  generalize p.d = pd at *
  generalize p.t = pt at *
  clear hE
  go_enter Tryz.func10, Tryz.ntmps10
  go_wp2_with fail
  ((with_reducible refine (HC.out _ ((Below.refl _ w).alloc (Nat.le_refl _) _)).mono ?_); rintro _ u1 ⟨rfl, hb⟩)
  have T : CF u1 w.heap.size 0 (.slice a1 n1 c1) ∧ CF u1 w.heap.size 1 (.slice a2 n2 c2) ∧ CF u1 w.heap.size 2 (.int .i64 pd) ∧ CF u1 w.heap.size 3 (.int .i64 pt) := by
    refine ⟨⟨?_, ?_⟩, ⟨?_, ?_⟩, ⟨?_, ?_⟩, ⟨?_, ?_⟩⟩ <;> first | (refine kc hb ?_ <;> (go_simp; first | done | rfl)) | (refine kfz hb ?_ ?_ <;> first | (go_size; done) | (go_simp; done))
  have hz := hb.size
  (try simp only [szA] at hz)
  have L : w.heap.size < u1.heap.size := by omega
  have hB' : Below w.heap.size w u1 := by
    refine kb ?_ hb
    go_grown
  clear hb hz
  obtain ⟨⟨hp_0, fp_0⟩, ⟨hp_1, fp_1⟩, ⟨hp_2, fp_2⟩, ⟨hp_3, fp_3⟩⟩ := T
  have hlp := L; clear L
  obtain ⟨hnp0, hnp1, hkp1, hnp2, hkp2⟩ := ap0 hlp
  have hB := hB'; clear hB'
  have hsz := hB.size
  go_wp2
  refine bodyPost_ret (v := .tuple #[.string ⟨#[]⟩, .int .i64 E]) (by simp [results, Tryz.results10, go_sem] <;> first | done | rfl) rfl ⟨rfl, by go_grown⟩
end Go.Proofs.YtjcmblbnbpikfaaGreatDoor
