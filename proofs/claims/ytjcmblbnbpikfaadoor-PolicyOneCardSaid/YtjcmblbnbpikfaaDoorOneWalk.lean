/-
  PolicyOne, walked.
-/
import Derived.Test.YtjcmblbnbpikfaaDoorOnePure
import Derived.Test.YtjcmblbnbpikfaaDoorAppendH
import Derived.Test.YtjcmblbnbpikfaaDoorSame
import Derived.Test.YtjcmblbnbpikfaaDoorLawKit
import Derived.Test.YtjcmblbnbpikfaaDoorMayWalk
set_option linter.unusedSimpArgs false
set_option linter.unusedVariables false
namespace Go.Proofs.YtjcmblbnbpikfaaDoor
open Go.RowKit Go.PlainAid

set_option maxRecDepth 100000 in
set_option maxHeartbeats 2000000 in
theorem one_few (P : Pol) (v : Value) (x : Sp) (b : Bool) (w : World) (hv : HoldsP w v P) (hT : w.cell? ⟨5, 15, none⟩ = some (.int .u8 4)) (hF : (decide (P.s.length ≤ 80) && decide (P.k.length ≤ 80)) = false) : Calls Tryd.prog 5 #[v, .agg x.cells.toArray, .bool b] w (LawEnd w) := by
  have HA := Lib.hid (fun W (hb : Below w.heap.size w W) => awake7_c W (kc hb hT))
  have HFw := Lib.hid (fun W (hb : Below w.heap.size w W) => few_c P v W (hv.below hb))
  rw [hF] at HFw
  obtain ⟨v1, v2, rfl, h1, h2⟩ := hv
  obtain ⟨a1, c1, rfl⟩ := h1.form
  obtain ⟨a2, c2, rfl⟩ := h2.form
  obtain ⟨ps, pk, pd, pt⟩ := P
  obtain ⟨xf, xt, xb⟩ := x
  dsimp only at *
  generalize ps.length = n1 at *
  generalize pk.length = n2 at *
  clear h1 h2 hF
  show Calls Tryd.prog _ #[_, .agg #[.int .i64 xf, .int .i64 xt, .int .u8 xb], _] w _
  go_enter Tryd.func5, Tryd.ntmps5
  go_wp2_with fail
  ((with_reducible refine (HFw.out _ (by go_grown)).mono ?_); rintro _ u1 ⟨rfl, hb⟩)
  have T : u1.cell? ⟨w.heap.size, 0, none⟩ = some (.slice a1 n1 c1) ∧ u1.cell? ⟨w.heap.size, 1, none⟩ = some (.slice a2 n2 c2) ∧ u1.cell? ⟨w.heap.size, 2, none⟩ = some (.int .i64 pd) ∧ u1.cell? ⟨w.heap.size, 3, none⟩ = some (.int .i64 pt) := by
      refine ⟨?_, ?_, ?_, ?_⟩ <;> refine kc hb ?_ <;> (go_simp; first | done | rfl)
  have hz := hb.size
  (try simp only [World.size_alloc, World.size_setCell, World.size_drew] at hz)
  have hlp' : w.heap.size < u1.heap.size := by omega
  have hB' : Below w.heap.size w u1 := by
      refine kb ?_ hb
      go_grown
  clear hb hz
  obtain ⟨hp_0, hp_1, hp_2, hp_3⟩ := T
  have hlp := hlp'; clear hlp'
  have hnp0 : ¬ (w.heap.size = u1.heap.size) := by omega
  have hnp1 : ¬ (w.heap.size = u1.heap.size + 1) := by omega
  have hkp1 : w.heap.size < u1.heap.size + 1 := by omega
  have hnp2 : ¬ (w.heap.size = u1.heap.size + 1 + 1) := by omega
  have hkp2 : w.heap.size < u1.heap.size + 1 + 1 := by omega
  have hB := hB'; clear hB'
  have hsz := hB.size
  go_wp2_with fail
  ((with_reducible refine (HA.out _ (by go_grown)).mono ?_); rintro _ u2 ⟨rfl, hb⟩)
  have T : u2.cell? ⟨w.heap.size, 0, none⟩ = some (.slice a1 n1 c1) ∧ u2.cell? ⟨w.heap.size, 1, none⟩ = some (.slice a2 n2 c2) ∧ u2.cell? ⟨w.heap.size, 2, none⟩ = some (.int .i64 pd) ∧ u2.cell? ⟨w.heap.size, 3, none⟩ = some (.int .i64 pt) := by
      refine ⟨?_, ?_, ?_, ?_⟩ <;> refine kc hb ?_ <;> (go_simp; first | done | rfl)
  have hz := hb.size
  (try simp only [World.size_alloc, World.size_setCell, World.size_drew] at hz)
  have hlp' : w.heap.size < u2.heap.size := by omega
  have hB' : Below w.heap.size w u2 := by
      refine kb ?_ hb
      go_grown
  clear hp_0 hp_1 hp_2 hp_3 hlp hnp0 hnp1 hkp1 hnp2 hkp2 hB hsz
  clear hb hz
  obtain ⟨hp_0, hp_1, hp_2, hp_3⟩ := T
  have hlp := hlp'; clear hlp'
  have hnp0 : ¬ (w.heap.size = u2.heap.size) := by omega
  have hnp1 : ¬ (w.heap.size = u2.heap.size + 1) := by omega
  have hkp1 : w.heap.size < u2.heap.size + 1 := by omega
  have hnp2 : ¬ (w.heap.size = u2.heap.size + 1 + 1) := by omega
  have hkp2 : w.heap.size < u2.heap.size + 1 + 1 := by omega
  have hB := hB'; clear hB'
  have hsz := hB.size
  go_wp2
  go_ret
  exact ⟨rfl, hB⟩
set_option maxRecDepth 100000 in
set_option maxHeartbeats 2000000 in
theorem one_bad (P : Pol) (v : Value) (x : Sp) (b : Bool) (w : World) (hv : HoldsP w v P) (hT : w.cell? ⟨5, 15, none⟩ = some (.int .u8 4)) (hF : P.s.length ≤ 80 ∧ P.k.length ≤ 80) (hE : checkM P ≠ 0) : Calls Tryd.prog 5 #[v, .agg x.cells.toArray, .bool b] w (LawEnd w) := by
  have HA := Lib.hid (fun W (hb : Below w.heap.size w W) => awake7_c W (kc hb hT))
  have HFw := Lib.hid (fun W (hb : Below w.heap.size w W) => few_c P v W (hv.below hb))
  rw [decide_eq_true hF.1, decide_eq_true hF.2] at HFw
  have HCl := Lib.hid (fun W (hb : Below w.heap.size w W) => check_c P ⟨by omega, by omega⟩ v W (hv.below hb))
  generalize checkM P = E at *
  have d1 : (E != 0) = true := by simp [bne, hE]
  have d2 : decide (E = 0) = false := decide_eq_false hE
  obtain ⟨v1, v2, rfl, h1, h2⟩ := hv
  obtain ⟨a1, c1, rfl⟩ := h1.form
  obtain ⟨a2, c2, rfl⟩ := h2.form
  obtain ⟨ps, pk, pd, pt⟩ := P
  obtain ⟨xf, xt, xb⟩ := x
  dsimp only at *
  generalize ps.length = n1 at *
  generalize pk.length = n2 at *
  clear h1 h2 hF hE
  show Calls Tryd.prog _ #[_, .agg #[.int .i64 xf, .int .i64 xt, .int .u8 xb], _] w _
  go_enter Tryd.func5, Tryd.ntmps5
  go_wp2_with fail
  ((with_reducible refine (HFw.out _ (by go_grown)).mono ?_); rintro _ u1 ⟨rfl, hb⟩)
  have T : u1.cell? ⟨w.heap.size, 0, none⟩ = some (.slice a1 n1 c1) ∧ u1.cell? ⟨w.heap.size, 1, none⟩ = some (.slice a2 n2 c2) ∧ u1.cell? ⟨w.heap.size, 2, none⟩ = some (.int .i64 pd) ∧ u1.cell? ⟨w.heap.size, 3, none⟩ = some (.int .i64 pt) := by
      refine ⟨?_, ?_, ?_, ?_⟩ <;> refine kc hb ?_ <;> (go_simp; first | done | rfl)
  have hz := hb.size
  (try simp only [World.size_alloc, World.size_setCell, World.size_drew] at hz)
  have hlp' : w.heap.size < u1.heap.size := by omega
  have hB' : Below w.heap.size w u1 := by
      refine kb ?_ hb
      go_grown
  clear hb hz
  obtain ⟨hp_0, hp_1, hp_2, hp_3⟩ := T
  have hlp := hlp'; clear hlp'
  have hnp0 : ¬ (w.heap.size = u1.heap.size) := by omega
  have hnp1 : ¬ (w.heap.size = u1.heap.size + 1) := by omega
  have hkp1 : w.heap.size < u1.heap.size + 1 := by omega
  have hnp2 : ¬ (w.heap.size = u1.heap.size + 1 + 1) := by omega
  have hkp2 : w.heap.size < u1.heap.size + 1 + 1 := by omega
  have hB := hB'; clear hB'
  have hsz := hB.size
  go_wp2_with fail
  ((with_reducible refine (HCl.out _ (by go_grown)).mono ?_); rintro _ u2 ⟨rfl, hb⟩)
  have T : u2.cell? ⟨w.heap.size, 0, none⟩ = some (.slice a1 n1 c1) ∧ u2.cell? ⟨w.heap.size, 1, none⟩ = some (.slice a2 n2 c2) ∧ u2.cell? ⟨w.heap.size, 2, none⟩ = some (.int .i64 pd) ∧ u2.cell? ⟨w.heap.size, 3, none⟩ = some (.int .i64 pt) := by
      refine ⟨?_, ?_, ?_, ?_⟩ <;> refine kc hb ?_ <;> (go_simp; first | done | rfl)
  have hz := hb.size
  (try simp only [World.size_alloc, World.size_setCell, World.size_drew] at hz)
  have hlp' : w.heap.size < u2.heap.size := by omega
  have hB' : Below w.heap.size w u2 := by
      refine kb ?_ hb
      go_grown
  clear hp_0 hp_1 hp_2 hp_3 hlp hnp0 hnp1 hkp1 hnp2 hkp2 hB hsz
  clear hb hz
  obtain ⟨hp_0, hp_1, hp_2, hp_3⟩ := T
  have hlp := hlp'; clear hlp'
  have hnp0 : ¬ (w.heap.size = u2.heap.size) := by omega
  have hnp1 : ¬ (w.heap.size = u2.heap.size + 1) := by omega
  have hkp1 : w.heap.size < u2.heap.size + 1 := by omega
  have hnp2 : ¬ (w.heap.size = u2.heap.size + 1 + 1) := by omega
  have hkp2 : w.heap.size < u2.heap.size + 1 + 1 := by omega
  have hB := hB'; clear hB'
  have hsz := hB.size
  go_wp2_with fail
  ((with_reducible refine (HA.out _ (by go_grown)).mono ?_); rintro _ u3 ⟨rfl, hb⟩)
  have T : u3.cell? ⟨w.heap.size, 0, none⟩ = some (.slice a1 n1 c1) ∧ u3.cell? ⟨w.heap.size, 1, none⟩ = some (.slice a2 n2 c2) ∧ u3.cell? ⟨w.heap.size, 2, none⟩ = some (.int .i64 pd) ∧ u3.cell? ⟨w.heap.size, 3, none⟩ = some (.int .i64 pt) := by
      refine ⟨?_, ?_, ?_, ?_⟩ <;> refine kc hb ?_ <;> (go_simp; first | done | rfl)
  have hz := hb.size
  (try simp only [World.size_alloc, World.size_setCell, World.size_drew] at hz)
  have hlp' : w.heap.size < u3.heap.size := by omega
  have hB' : Below w.heap.size w u3 := by
      refine kb ?_ hb
      go_grown
  clear hp_0 hp_1 hp_2 hp_3 hlp hnp0 hnp1 hkp1 hnp2 hkp2 hB hsz
  clear hb hz
  obtain ⟨hp_0, hp_1, hp_2, hp_3⟩ := T
  have hlp := hlp'; clear hlp'
  have hnp0 : ¬ (w.heap.size = u3.heap.size) := by omega
  have hnp1 : ¬ (w.heap.size = u3.heap.size + 1) := by omega
  have hkp1 : w.heap.size < u3.heap.size + 1 := by omega
  have hnp2 : ¬ (w.heap.size = u3.heap.size + 1 + 1) := by omega
  have hkp2 : w.heap.size < u3.heap.size + 1 + 1 := by omega
  have hB := hB'; clear hB'
  have hsz := hB.size
  go_wp2
  go_ret
  exact ⟨rfl, hB⟩
theorem kcn {N : Nat} {W w1 : World} (hb : Below N W w1) {b o : Nat} {v : Value} (hN : b < N) (h : W.cell? ⟨b, o, none⟩ = some v) : w1.cell? ⟨b, o, none⟩ = some v := (hb.cell (p := ⟨b, o, none⟩) hN).trans h
theorem kfn {N : Nat} {W w1 : World} (hb : Below N W w1) {b o : Nat} (hN : b < N) (h : W.frozen? ⟨b, o, none⟩ = false) : w1.frozen? ⟨b, o, none⟩ = false := (hb.frozen (p := ⟨b, o, none⟩) hN).trans h
theorem one_facts {Q : Pol} (h : checkM Q = 0) (hb : Bits Q) : ∃ L, printM Q = (L, 0) ∧ parseM L = ⟨0, 0, 0, sortP Q⟩ := by
  have h1 := print_ok h hb
  have h2 := back h hb
  rw [h1] at h2
  exact ⟨_, h1, h2⟩
theorem sp_eql (a b c d e f : Int) (W : World) : (binOp .eql 38 (.agg #[.int .i64 a, .int .i64 b, .int .u8 c]) (.agg #[.int .i64 d, .int .i64 e, .int .u8 f])).run Tryd.prog W = .ok (.bool (decide ((⟨a, b, c⟩ : Sp) = ⟨d, e, f⟩))) W := by
  by_cases h1 : a = d
  · by_cases h2 : b = e
    · by_cases h3 : c = f
      · subst h1; subst h2; subst h3; simp [go_sem]
      · have n : (c == f) = false := beq_eq_false_iff_ne.2 h3
        simp [go_sem, h1, h2, h3, n]
    · have n : (b == e) = false := beq_eq_false_iff_ne.2 h2
      simp [go_sem, h1, h2, n]
  · have n : (a == d) = false := beq_eq_false_iff_ne.2 h1
    simp [go_sem, h1, n]
theorem one_holdsS (W : World) (T : TypeId) (f t b : Int) : HoldsE Sp.cells 3 (W.alloc (.cells #[.int .i64 f, .int .i64 t, .int .u8 b] T)) (.slice (some ⟨W.heap.size, 0, none⟩) 1 1) [⟨f, t, b⟩] := by
  refine .inr ⟨W.heap.size, 0, 1, rfl, Nat.le_refl _, fun j x hx i u hu => ?_⟩
  have hh := heap_alloc_new W (.cells #[.int .i64 f, .int .i64 t, .int .u8 b] T)
  cases j with
  | zero =>
    cases hx
    simp only [World.cell?, hh, Nat.zero_mul, Nat.add_zero, Nat.zero_add]
    rw [← hu]
    simp [Sp.cells]
  | succ j => simp at hx
set_option maxRecDepth 100000 in
set_option maxHeartbeats 8000000 in
theorem one_ok_true (P : Pol) (hb8 : Bits P) (v : Value) (x : Sp) (hx8 : 0 ≤ x.b ∧ x.b ≤ 255) (w : World) (hv : HoldsP w v P) (hT : w.cell? ⟨5, 15, none⟩ = some (.int .u8 4)) (hF : P.s.length ≤ 80 ∧ P.k.length ≤ 80) (hE : checkM P = 0) : Calls Tryd.prog 5 #[v, .agg x.cells.toArray, .bool true] w (LawEnd w) := by
  have HA := Lib.hid (fun W (hb : Below w.heap.size w W) => awake7_c W (kc hb hT))
  have HFw := Lib.hid (fun W (hb : Below w.heap.size w W) => few_c P v W (hv.below hb))
  rw [decide_eq_true hF.1, decide_eq_true hF.2] at HFw
  have HCl := Lib.hid (fun W (hb : Below w.heap.size w W) => check_c P ⟨by omega, by omega⟩ v W (hv.below hb))
  rw [hE] at HCl
  have HSo := Lib.hid (fun W (hb : Below w.heap.size w W) => sorted_c P ⟨by omega, by omega⟩ v W (hv.below hb))
  unfold AnsP sortP at HSo
  dsimp only at HSo
  have hl1 := sortS_len P.s
  have hl2 := sortS_len P.k
  have hbq := oneP_bits (sink := true) hb8 hx8
  have hQ : oneP P x true = ⟨sortS P.s, sortS P.k ++ [x], P.d, P.t⟩ := rfl
  rw [hQ] at hbq
  have hlen := check_len hE
  obtain ⟨v1, v2, rfl, h1, h2⟩ := hv
  obtain ⟨a1, c1, rfl⟩ := h1.form
  obtain ⟨a2, c2, rfl⟩ := h2.form
  obtain ⟨ps, pk, pd, pt⟩ := P
  dsimp only at HA HFw HCl HSo hl1 hl2 hbq hF hlen ⊢
  generalize sortS ps = LS at *
  generalize sortS pk = LK at *
  obtain ⟨n1, hn1⟩ : ∃ n, ps.length = n := ⟨_, rfl⟩
  obtain ⟨n2, hn2⟩ : ∃ n, pk.length = n := ⟨_, rfl⟩
  rw [hn1] at hl1
  rw [hn2] at hl2
  rw [hn1, hn2] at HFw HCl HSo hF hlen ⊢
  have HL := Lib.hid (show LS.length = n1 ∧ LK.length = n2 ∧ n1 + n2 ≤ 64 from ⟨hl1, hl2, hlen⟩)
  obtain ⟨Q, hQe⟩ : ∃ Q, (⟨LS, LK ++ [x], pd, pt⟩ : Pol) = Q := ⟨_, rfl⟩
  have hsl : Q.s.length ≤ 100 ∧ Q.k.length ≤ 100 := by rw [← hQe]; constructor <;> (try simp only [List.length_append, List.length_cons, List.length_nil]) <;> omega
  have HCq := Lib.hid (fun v W hv => check_c Q ⟨by omega, by omega⟩ v W hv)
  have HPq := Lib.hid (fun v W hv (hb : Below w.heap.size w W) => print_c Q ⟨by omega, by omega⟩ (hQe ▸ hbq) v W hv (kc hb hT))
  have HBq := Lib.hid (show Bits Q from hQe ▸ hbq)
  have HQ := Lib.hid hQe
  clear h1 h2 hb8 hE hF hl1 hl2 hQ hbq hsl hlen hn1 hn2 hQe
  obtain ⟨xf, xt, xb⟩ := x
  dsimp only at hx8
  show Calls Tryd.prog _ #[_, .agg #[.int .i64 xf, .int .i64 xt, .int .u8 xb], _] w _
  obtain ⟨i0, hi, hz0, hz1, hz2⟩ := info_parts Tryd.infoS
  go_enter Tryd.func5, Tryd.ntmps5
  go_wp2_with fail
  ((with_reducible refine (HFw.out _ (by go_grown)).mono ?_); rintro _ u1 ⟨rfl, hb⟩)
  have T : u1.cell? ⟨w.heap.size, 0, none⟩ = some (.slice a1 n1 c1) ∧ u1.cell? ⟨w.heap.size, 1, none⟩ = some (.slice a2 n2 c2) ∧ u1.cell? ⟨w.heap.size, 2, none⟩ = some (.int .i64 pd) ∧ u1.cell? ⟨w.heap.size, 3, none⟩ = some (.int .i64 pt) ∧ u1.cell? ⟨w.heap.size + 1, 0, none⟩ = some (.int .i64 xf) ∧ u1.cell? ⟨w.heap.size + 1, 1, none⟩ = some (.int .i64 xt) ∧ u1.cell? ⟨w.heap.size + 1, 2, none⟩ = some (.int .u8 xb) := by
      refine ⟨?_, ?_, ?_, ?_, ?_, ?_, ?_⟩ <;> refine kc hb ?_ <;> (go_simp; first | done | rfl)
  have hz := hb.size
  (try simp only [World.size_alloc, World.size_setCell, World.size_drew] at hz)
  have hlp' : w.heap.size < u1.heap.size := by omega
  have hlx' : w.heap.size + 1 < u1.heap.size := by omega
  have hB' : Below w.heap.size w u1 := by
      refine kb ?_ hb
      go_grown
  clear hb hz
  obtain ⟨hp_0, hp_1, hp_2, hp_3, hx_0, hx_1, hx_2⟩ := T
  have hlp := hlp'; clear hlp'
  have hlx := hlx'; clear hlx'
  have hnp0 : ¬ (w.heap.size = u1.heap.size) := by omega
  have hnp1 : ¬ (w.heap.size = u1.heap.size + 1) := by omega
  have hkp1 : w.heap.size < u1.heap.size + 1 := by omega
  have hnp2 : ¬ (w.heap.size = u1.heap.size + 1 + 1) := by omega
  have hkp2 : w.heap.size < u1.heap.size + 1 + 1 := by omega
  have hnx0 : ¬ (w.heap.size + 1 = u1.heap.size) := by omega
  have hkx1 : w.heap.size < u1.heap.size := by omega
  have hB := hB'; clear hB'
  have hsz := hB.size
  go_wp2_with fail
  ((with_reducible refine (HCl.out _ (by go_grown)).mono ?_); rintro _ u2 ⟨rfl, hb⟩)
  have T : u2.cell? ⟨w.heap.size, 0, none⟩ = some (.slice a1 n1 c1) ∧ u2.cell? ⟨w.heap.size, 1, none⟩ = some (.slice a2 n2 c2) ∧ u2.cell? ⟨w.heap.size, 2, none⟩ = some (.int .i64 pd) ∧ u2.cell? ⟨w.heap.size, 3, none⟩ = some (.int .i64 pt) ∧ u2.cell? ⟨w.heap.size + 1, 0, none⟩ = some (.int .i64 xf) ∧ u2.cell? ⟨w.heap.size + 1, 1, none⟩ = some (.int .i64 xt) ∧ u2.cell? ⟨w.heap.size + 1, 2, none⟩ = some (.int .u8 xb) := by
      refine ⟨?_, ?_, ?_, ?_, ?_, ?_, ?_⟩ <;> refine kc hb ?_ <;> (go_simp; first | done | rfl)
  have hz := hb.size
  (try simp only [World.size_alloc, World.size_setCell, World.size_drew] at hz)
  have hlp' : w.heap.size < u2.heap.size := by omega
  have hlx' : w.heap.size + 1 < u2.heap.size := by omega
  have hB' : Below w.heap.size w u2 := by
      refine kb ?_ hb
      go_grown
  clear hp_0 hp_1 hp_2 hp_3 hx_0 hx_1 hx_2 hlp hlx hnp0 hnp1 hkp1 hnp2 hkp2 hnx0 hkx1 hB hsz
  clear hb hz
  obtain ⟨hp_0, hp_1, hp_2, hp_3, hx_0, hx_1, hx_2⟩ := T
  have hlp := hlp'; clear hlp'
  have hlx := hlx'; clear hlx'
  have hnp0 : ¬ (w.heap.size = u2.heap.size) := by omega
  have hnp1 : ¬ (w.heap.size = u2.heap.size + 1) := by omega
  have hkp1 : w.heap.size < u2.heap.size + 1 := by omega
  have hnp2 : ¬ (w.heap.size = u2.heap.size + 1 + 1) := by omega
  have hkp2 : w.heap.size < u2.heap.size + 1 + 1 := by omega
  have hnx0 : ¬ (w.heap.size + 1 = u2.heap.size) := by omega
  have hkx1 : w.heap.size < u2.heap.size := by omega
  have hB := hB'; clear hB'
  have hsz := hB.size
  go_wp2_with fail
  ((with_reducible refine (HSo.out _ (by go_grown)).mono ?_); rintro _ u3 ⟨v3, v4, rfl, h3, h4, hy3, hy4, hb⟩)
  have hs_u3 := Lib.hid hb
  have T : u3.cell? ⟨w.heap.size, 0, none⟩ = some (.slice a1 n1 c1) ∧ u3.cell? ⟨w.heap.size, 1, none⟩ = some (.slice a2 n2 c2) ∧ u3.cell? ⟨w.heap.size, 2, none⟩ = some (.int .i64 pd) ∧ u3.cell? ⟨w.heap.size, 3, none⟩ = some (.int .i64 pt) ∧ u3.cell? ⟨w.heap.size + 1, 0, none⟩ = some (.int .i64 xf) ∧ u3.cell? ⟨w.heap.size + 1, 1, none⟩ = some (.int .i64 xt) ∧ u3.cell? ⟨w.heap.size + 1, 2, none⟩ = some (.int .u8 xb) := by
      refine ⟨?_, ?_, ?_, ?_, ?_, ?_, ?_⟩ <;> refine kc hb ?_ <;> (go_simp; first | done | rfl)
  have hz := hb.size
  (try simp only [World.size_alloc, World.size_setCell, World.size_drew] at hz)
  have hlp' : w.heap.size < u3.heap.size := by omega
  have hlx' : w.heap.size + 1 < u3.heap.size := by omega
  have hB' : Below w.heap.size w u3 := by
      refine kb ?_ hb
      go_grown
  clear hp_0 hp_1 hp_2 hp_3 hx_0 hx_1 hx_2 hlp hlx hnp0 hnp1 hkp1 hnp2 hkp2 hnx0 hkx1 hB hsz
  clear hb hz
  obtain ⟨hp_0, hp_1, hp_2, hp_3, hx_0, hx_1, hx_2⟩ := T
  have hlp := hlp'; clear hlp'
  have hlx := hlx'; clear hlx'
  have hnp0 : ¬ (w.heap.size = u3.heap.size) := by omega
  have hnp1 : ¬ (w.heap.size = u3.heap.size + 1) := by omega
  have hkp1 : w.heap.size < u3.heap.size + 1 := by omega
  have hnp2 : ¬ (w.heap.size = u3.heap.size + 1 + 1) := by omega
  have hkp2 : w.heap.size < u3.heap.size + 1 + 1 := by omega
  have hnx0 : ¬ (w.heap.size + 1 = u3.heap.size) := by omega
  have hkx1 : w.heap.size < u3.heap.size := by omega
  have hB := hB'; clear hB'
  have hsz := hB.size
  obtain ⟨a3, c3, rfl⟩ := h3.form
  obtain ⟨a4, c4, rfl⟩ := h4.form
  rw [HL.out.1] at h3 hy3 ⊢
  rw [HL.out.2.1] at h4 hy4 ⊢
  have HH := Lib.hid (And.intro h3 h4)
  clear h3 h4 hy3 hy4
  have hwu : w.heap.size + 1 < u3.heap.size := hlx
  go_wp2_with (at_builtin; refine wpList_append_holds sp_len (by decide) sp_one rfl _ _ 23 rfl (u3.heap.size + 1) 38 i0 _ 24 Tryd.underlying23 hi hz0 hz1 hz2 rfl _ 0 _ rfl (World.ownsRow_nil _ _ _ _) _ LK rfl (HoldsE.below HH.out.2 ((Below.refl _ u3).alloc (Nat.le_refl _) _)) ?c4 ?c5 ?c6 ?_)
  case c4 => have := HL.out; unfold maxLen; omega
  case c5 => have := HL.out; omega
  case c6 => simp
  intro v5 u4 ho hg
  rw [HL.out.2.1] at ho
  (try simp only [Nat.zero_add, List.nil_append] at ho)
  have hb : Below (u3.alloc (.cells #[.slice a3 n1 c3, .slice a4 n2 c4, .int .i64 pd, .int .i64 pt] 25)).heap.size (u3.alloc (.cells #[.slice a3 n1 c3, .slice a4 n2 c4, .int .i64 pd, .int .i64 pt] 25)) u4 := Below.grown (Below.refl _ _) hg (Nat.le_refl _) (fun k hk => by cases hk)
  have HC4 : (u4.cell? ⟨w.heap.size, 0, none⟩ = some (.slice a1 n1 c1) ∧ u4.cell? ⟨w.heap.size, 1, none⟩ = some (.slice a2 n2 c2) ∧ u4.cell? ⟨w.heap.size, 2, none⟩ = some (.int .i64 pd) ∧ u4.cell? ⟨w.heap.size, 3, none⟩ = some (.int .i64 pt) ∧ u4.cell? ⟨w.heap.size + 1, 0, none⟩ = some (.int .i64 xf) ∧ u4.cell? ⟨w.heap.size + 1, 1, none⟩ = some (.int .i64 xt) ∧ u4.cell? ⟨w.heap.size + 1, 2, none⟩ = some (.int .u8 xb) ∧ u4.cell? ⟨u3.heap.size, 0, none⟩ = some (.slice a3 n1 c3) ∧ u4.frozen? ⟨u3.heap.size, 0, none⟩ = false ∧ u4.cell? ⟨u3.heap.size, 1, none⟩ = some (.slice a4 n2 c4) ∧ u4.frozen? ⟨u3.heap.size, 1, none⟩ = false ∧ u4.cell? ⟨u3.heap.size, 2, none⟩ = some (.int .i64 pd) ∧ u4.frozen? ⟨u3.heap.size, 2, none⟩ = false ∧ u4.cell? ⟨u3.heap.size, 3, none⟩ = some (.int .i64 pt) ∧ u4.frozen? ⟨u3.heap.size, 3, none⟩ = false ∧ Below w.heap.size w u4) := by
    refine ⟨?_, ?_, ?_, ?_, ?_, ?_, ?_, ?_, ?_, ?_, ?_, ?_, ?_, ?_, ?_, ?_⟩
    all_goals first | (refine kc hb ?_; go_simp; first | done | rfl) | (refine kfz hb (by simp only [World.size_alloc]; omega) ?_; go_simp; first | done | rfl) | (refine kb ?_ hb; go_grown)
  have HO := Lib.hid ho
  have HB4 := Lib.hid (show Below u3.heap.size u3 u4 from kbn (Nat.le_refl _) ((Below.refl _ u3).alloc (Nat.le_refl _) _) hb)
  have hz4 : u3.heap.size + 1 ≤ u4.heap.size := by have := hb.size; simpa using this
  clear ho hg hb
  clear hp_0 hp_1 hp_2 hp_3 hx_0 hx_1 hx_2 hlp hlx hnp0 hnp1 hkp1 hnp2 hkp2 hnx0 hkx1 hB hsz
  obtain ⟨hp_0, hp_1, hp_2, hp_3, hx_0, hx_1, hx_2, hq_0, fq_0, hq_1, fq_1, hq_2, fq_2, hq_3, fq_3, hB⟩ := HC4
  have hsz := hB.size
  have hlp := klt hp_0
  have hlx := klt hx_0
  have hlq := klt hq_0
  have hnp0 : ¬ (w.heap.size = u4.heap.size) := by omega
  have hnp1 : ¬ (w.heap.size = u4.heap.size + 1) := by omega
  have hkp1 : w.heap.size < u4.heap.size + 1 := by omega
  have hnp2 : ¬ (w.heap.size = u4.heap.size + 1 + 1) := by omega
  have hkp2 : w.heap.size < u4.heap.size + 1 + 1 := by omega
  have hnx0 : ¬ (w.heap.size + 1 = u4.heap.size) := by omega
  have hkx1 : w.heap.size < u4.heap.size := by omega
  have hnq0 : ¬ (u3.heap.size = u4.heap.size) := by omega
  have hnq1 : ¬ (u3.heap.size = u4.heap.size + 1) := by omega
  have hkq1 : u3.heap.size < u4.heap.size + 1 := by omega
  have hnq2 : ¬ (u3.heap.size = u4.heap.size + 1 + 1) := by omega
  have hkq2 : u3.heap.size < u4.heap.size + 1 + 1 := by omega
  obtain ⟨p5, c5, rfl⟩ := own_form HO.out
  go_wp2_with (at_builtin; refine wpList_append_holds sp_len (by decide) sp_one rfl _ _ 23 rfl (u3.heap.size + 1) 38 i0 _ 24 Tryd.underlying23 hi hz0 hz1 hz2 rfl _ _ _ rfl (own_below HO.out (by go_grown)) _ [⟨xf, xt, xb⟩] rfl (one_holdsS _ _ _ _ _) ?c4 ?c5 ?c6 ?_)
  case c4 => have := HL.out; unfold maxLen; simp only [List.length_cons, List.length_nil]; omega
  case c5 => have := HL.out; simp only [List.length_cons, List.length_nil]; omega
  case c6 => simp only [World.size_alloc]; omega
  intro v6 u5 ho hg
  have HO6 := Lib.hid (show u5.ownsRow (u3.heap.size + 1) 38 3 v6 (LK ++ [(⟨xf, xt, xb⟩ : Sp)]).length ((LK ++ [⟨xf, xt, xb⟩] : List Sp).flatMap Sp.cells) from by rw [List.length_append, HL.out.2.1, List.flatMap_append]; exact ho)
  have hb : Below (u3.heap.size + 1) (u4.alloc (.cells #[.int .i64 xf, .int .i64 xt, .int .u8 xb] 38)) u5 := Below.grown (Below.refl _ _) hg (by simp only [World.size_alloc]; omega) (fun k hk => (HO.out.lt k hk).1)
  have HC5 : (u5.cell? ⟨w.heap.size, 0, none⟩ = some (.slice a1 n1 c1) ∧ u5.cell? ⟨w.heap.size, 1, none⟩ = some (.slice a2 n2 c2) ∧ u5.cell? ⟨w.heap.size, 2, none⟩ = some (.int .i64 pd) ∧ u5.cell? ⟨w.heap.size, 3, none⟩ = some (.int .i64 pt) ∧ u5.cell? ⟨w.heap.size + 1, 0, none⟩ = some (.int .i64 xf) ∧ u5.cell? ⟨w.heap.size + 1, 1, none⟩ = some (.int .i64 xt) ∧ u5.cell? ⟨w.heap.size + 1, 2, none⟩ = some (.int .u8 xb) ∧ u5.cell? ⟨u3.heap.size, 0, none⟩ = some (.slice a3 n1 c3) ∧ u5.frozen? ⟨u3.heap.size, 0, none⟩ = false ∧ u5.cell? ⟨u3.heap.size, 1, none⟩ = some (.slice a4 n2 c4) ∧ u5.frozen? ⟨u3.heap.size, 1, none⟩ = false ∧ u5.cell? ⟨u3.heap.size, 2, none⟩ = some (.int .i64 pd) ∧ u5.frozen? ⟨u3.heap.size, 2, none⟩ = false ∧ u5.cell? ⟨u3.heap.size, 3, none⟩ = some (.int .i64 pt) ∧ u5.frozen? ⟨u3.heap.size, 3, none⟩ = false ∧ Below w.heap.size w u5) := by
    refine ⟨?_, ?_, ?_, ?_, ?_, ?_, ?_, ?_, ?_, ?_, ?_, ?_, ?_, ?_, ?_, ?_⟩
    iterate 15 (focus (first | (refine kcn hb (by omega) ?_; go_simp; first | done | rfl) | (refine kfn hb (by omega) ?_; go_simp; first | done | rfl)))
    exact Below.trans (by go_grown) (hb.mono (by omega))
  have HB5 := Lib.hid (show Below u3.heap.size u3 u5 from Below.trans (HB4.out.alloc HB4.out.size _) (hb.mono (by omega)))
  have hz5 : u3.heap.size + 1 ≤ u5.heap.size := by have := hb.size; simp only [World.size_alloc] at this; omega
  clear ho hg hb hz4 HB4
  clear hp_0 hp_1 hp_2 hp_3 hx_0 hx_1 hx_2 hq_0 fq_0 hq_1 fq_1 hq_2 fq_2 hq_3 fq_3 hB hsz hlp hlx hlq hnp0 hnp1 hkp1 hnp2 hkp2 hnx0 hkx1 hnq0 hnq1 hkq1 hnq2 hkq2
  obtain ⟨hp_0, hp_1, hp_2, hp_3, hx_0, hx_1, hx_2, hq_0, fq_0, hq_1, fq_1, hq_2, fq_2, hq_3, fq_3, hB⟩ := HC5
  have hsz := hB.size
  have hlp := klt hp_0
  have hlx := klt hx_0
  have hlq := klt hq_0
  have hnp0 : ¬ (w.heap.size = u5.heap.size) := by omega
  have hnp1 : ¬ (w.heap.size = u5.heap.size + 1) := by omega
  have hkp1 : w.heap.size < u5.heap.size + 1 := by omega
  have hnp2 : ¬ (w.heap.size = u5.heap.size + 1 + 1) := by omega
  have hkp2 : w.heap.size < u5.heap.size + 1 + 1 := by omega
  have hnx0 : ¬ (w.heap.size + 1 = u5.heap.size) := by omega
  have hkx1 : w.heap.size < u5.heap.size := by omega
  have hnq0 : ¬ (u3.heap.size = u5.heap.size) := by omega
  have hnq1 : ¬ (u3.heap.size = u5.heap.size + 1) := by omega
  have hkq1 : u3.heap.size < u5.heap.size + 1 := by omega
  have hnq2 : ¬ (u3.heap.size = u5.heap.size + 1 + 1) := by omega
  have hkq2 : u3.heap.size < u5.heap.size + 1 + 1 := by omega
  obtain ⟨p6, c6, rfl⟩ := own_form HO6.out
  have HN6 := Lib.hid (show (LK ++ [(⟨xf, xt, xb⟩ : Sp)]).length = n2 + 1 from by rw [List.length_append, HL.out.2.1]; rfl)
  rw [HN6.out] at HO6 ⊢
  clear HO
  have HQQ := Lib.hid (fun W (hb : Below (u5.setCell ⟨u3.heap.size, 1, none⟩ (.slice p6 (n2 + 1) c6)).heap.size (u5.setCell ⟨u3.heap.size, 1, none⟩ (.slice p6 (n2 + 1) c6)) W) => show HoldsP W (.agg #[.slice a3 n1 c3, .slice p6 (n2 + 1) c6, .int .i64 pd, .int .i64 pt]) Q from by
    rw [← HQ.out]
    have e1 : HoldsS u5 (.slice p6 (n2 + 1) c6) (LK ++ [⟨xf, xt, xb⟩]) := HoldsE.own sp_len (by rw [HN6.out]; exact HO6.out)
    have e2 := HoldsE.below (holdsE_set2 e1 (p := ⟨u3.heap.size, 1, none⟩) (fun _ g hg => by have := (HO6.out.lt g hg).1; show g ≠ u3.heap.size; omega) (.slice p6 (n2 + 1) c6)) hb
    have e3 := HoldsE.below HH.out.1 (kbn (Nat.le_refl _) (HB5.out.setCell (Nat.le_refl _) _) hb)
    exact holdsP_of e3 e2)
  obtain ⟨E, hEq⟩ : ∃ E, checkM Q = E := ⟨_, rfl⟩
  have hvals := check_vals Q
  rw [hEq] at hvals HCq
  have HVals := Lib.hid hvals
  have HEQ := Lib.hid hEq
  clear hvals hEq HH HO6 HB5
  go_wp2_with fail
  ((with_reducible refine (HCq.out _ _ (HQQ.out _ (Below.refl _ _))).mono ?_); rintro _ u6 ⟨rfl, hb⟩)
  have hs_u6 := Lib.hid hb
  have T : u6.cell? ⟨w.heap.size, 0, none⟩ = some (.slice a1 n1 c1) ∧ u6.cell? ⟨w.heap.size, 1, none⟩ = some (.slice a2 n2 c2) ∧ u6.cell? ⟨w.heap.size, 2, none⟩ = some (.int .i64 pd) ∧ u6.cell? ⟨w.heap.size, 3, none⟩ = some (.int .i64 pt) ∧ u6.cell? ⟨w.heap.size + 1, 0, none⟩ = some (.int .i64 xf) ∧ u6.cell? ⟨w.heap.size + 1, 1, none⟩ = some (.int .i64 xt) ∧ u6.cell? ⟨w.heap.size + 1, 2, none⟩ = some (.int .u8 xb) ∧ u6.cell? ⟨u3.heap.size, 0, none⟩ = some (.slice a3 n1 c3) ∧ u6.cell? ⟨u3.heap.size, 1, none⟩ = some (.slice p6 (n2 + 1) c6) ∧ u6.cell? ⟨u3.heap.size, 2, none⟩ = some (.int .i64 pd) ∧ u6.cell? ⟨u3.heap.size, 3, none⟩ = some (.int .i64 pt) := by
      refine ⟨?_, ?_, ?_, ?_, ?_, ?_, ?_, ?_, ?_, ?_, ?_⟩ <;> refine kc hb ?_ <;> (go_simp; first | done | rfl)
  have hz := hb.size
  (try simp only [World.size_alloc, World.size_setCell, World.size_drew] at hz)
  have hlp' : w.heap.size < u6.heap.size := by omega
  have hlx' : w.heap.size + 1 < u6.heap.size := by omega
  have hlq' : u3.heap.size < u6.heap.size := by omega
  have hB' : Below w.heap.size w u6 := by
      refine kb ?_ hb
      go_grown
  clear hp_0 hp_1 hp_2 hp_3 hx_0 hx_1 hx_2 hq_0 fq_0 hq_1 fq_1 hq_2 fq_2 hq_3 fq_3 hB hsz hlp hlx hlq hnp0 hnp1 hkp1 hnp2 hkp2 hnx0 hkx1 hnq0 hnq1 hkq1 hnq2 hkq2
  clear hb hz
  obtain ⟨hp_0, hp_1, hp_2, hp_3, hx_0, hx_1, hx_2, hq_0, hq_1, hq_2, hq_3⟩ := T
  have hlp := hlp'; clear hlp'
  have hlx := hlx'; clear hlx'
  have hlq := hlq'; clear hlq'
  have hnp0 : ¬ (w.heap.size = u6.heap.size) := by omega
  have hnp1 : ¬ (w.heap.size = u6.heap.size + 1) := by omega
  have hkp1 : w.heap.size < u6.heap.size + 1 := by omega
  have hnp2 : ¬ (w.heap.size = u6.heap.size + 1 + 1) := by omega
  have hkp2 : w.heap.size < u6.heap.size + 1 + 1 := by omega
  have hnx0 : ¬ (w.heap.size + 1 = u6.heap.size) := by omega
  have hkx1 : w.heap.size < u6.heap.size := by omega
  have hnq0 : ¬ (u3.heap.size = u6.heap.size) := by omega
  have hnq1 : ¬ (u3.heap.size = u6.heap.size + 1) := by omega
  have hkq1 : u3.heap.size < u6.heap.size + 1 := by omega
  have hnq2 : ¬ (u3.heap.size = u6.heap.size + 1 + 1) := by omega
  have hkq2 : u3.heap.size < u6.heap.size + 1 + 1 := by omega
  have hB := hB'; clear hB'
  have hsz := hB.size
  clear HCq
  by_cases h0 : E ≠ 0
  · clear HQQ hs_u6
    rcases HVals.out with h1 | h1 | h1 | h1 | h1
    · exact absurd h1 h0
    · subst h1
      clear h0
      go_wp2_with fail
      ((with_reducible refine (HA.out _ (by go_grown)).mono ?_); rintro _ u7 ⟨rfl, hb⟩)
      have T : u7.cell? ⟨w.heap.size, 0, none⟩ = some (.slice a1 n1 c1) ∧ u7.cell? ⟨w.heap.size, 1, none⟩ = some (.slice a2 n2 c2) ∧ u7.cell? ⟨w.heap.size, 2, none⟩ = some (.int .i64 pd) ∧ u7.cell? ⟨w.heap.size, 3, none⟩ = some (.int .i64 pt) := by
          refine ⟨?_, ?_, ?_, ?_⟩ <;> refine kc hb ?_ <;> (go_simp; first | done | rfl)
      have hz := hb.size
      (try simp only [World.size_alloc, World.size_setCell, World.size_drew] at hz)
      have hlp' : w.heap.size < u7.heap.size := by omega
      have hB' : Below w.heap.size w u7 := by
          refine kb ?_ hb
          go_grown
      clear hp_0 hp_1 hp_2 hp_3 hx_0 hx_1 hx_2 hq_0 hq_1 hq_2 hq_3 hlp hlx hlq hnp0 hnp1 hkp1 hnp2 hkp2 hnx0 hkx1 hnq0 hnq1 hkq1 hnq2 hkq2 hB hsz
      clear hb hz
      obtain ⟨hp_0, hp_1, hp_2, hp_3⟩ := T
      have hlp := hlp'; clear hlp'
      have hnp0 : ¬ (w.heap.size = u7.heap.size) := by omega
      have hnp1 : ¬ (w.heap.size = u7.heap.size + 1) := by omega
      have hkp1 : w.heap.size < u7.heap.size + 1 := by omega
      have hnp2 : ¬ (w.heap.size = u7.heap.size + 1 + 1) := by omega
      have hkp2 : w.heap.size < u7.heap.size + 1 + 1 := by omega
      have hB := hB'; clear hB'
      have hsz := hB.size
      go_wp2
      go_ret
      exact ⟨rfl, hB⟩
    · subst h1
      clear h0
      go_wp2_with fail
      ((with_reducible refine (HA.out _ (by go_grown)).mono ?_); rintro _ u7 ⟨rfl, hb⟩)
      have T : u7.cell? ⟨w.heap.size, 0, none⟩ = some (.slice a1 n1 c1) ∧ u7.cell? ⟨w.heap.size, 1, none⟩ = some (.slice a2 n2 c2) ∧ u7.cell? ⟨w.heap.size, 2, none⟩ = some (.int .i64 pd) ∧ u7.cell? ⟨w.heap.size, 3, none⟩ = some (.int .i64 pt) := by
          refine ⟨?_, ?_, ?_, ?_⟩ <;> refine kc hb ?_ <;> (go_simp; first | done | rfl)
      have hz := hb.size
      (try simp only [World.size_alloc, World.size_setCell, World.size_drew] at hz)
      have hlp' : w.heap.size < u7.heap.size := by omega
      have hB' : Below w.heap.size w u7 := by
          refine kb ?_ hb
          go_grown
      clear hp_0 hp_1 hp_2 hp_3 hx_0 hx_1 hx_2 hq_0 hq_1 hq_2 hq_3 hlp hlx hlq hnp0 hnp1 hkp1 hnp2 hkp2 hnx0 hkx1 hnq0 hnq1 hkq1 hnq2 hkq2 hB hsz
      clear hb hz
      obtain ⟨hp_0, hp_1, hp_2, hp_3⟩ := T
      have hlp := hlp'; clear hlp'
      have hnp0 : ¬ (w.heap.size = u7.heap.size) := by omega
      have hnp1 : ¬ (w.heap.size = u7.heap.size + 1) := by omega
      have hkp1 : w.heap.size < u7.heap.size + 1 := by omega
      have hnp2 : ¬ (w.heap.size = u7.heap.size + 1 + 1) := by omega
      have hkp2 : w.heap.size < u7.heap.size + 1 + 1 := by omega
      have hB := hB'; clear hB'
      have hsz := hB.size
      go_wp2
      go_ret
      exact ⟨rfl, hB⟩
    · subst h1
      clear h0
      go_wp2_with fail
      ((with_reducible refine (HA.out _ (by go_grown)).mono ?_); rintro _ u7 ⟨rfl, hb⟩)
      have T : u7.cell? ⟨w.heap.size, 0, none⟩ = some (.slice a1 n1 c1) ∧ u7.cell? ⟨w.heap.size, 1, none⟩ = some (.slice a2 n2 c2) ∧ u7.cell? ⟨w.heap.size, 2, none⟩ = some (.int .i64 pd) ∧ u7.cell? ⟨w.heap.size, 3, none⟩ = some (.int .i64 pt) := by
          refine ⟨?_, ?_, ?_, ?_⟩ <;> refine kc hb ?_ <;> (go_simp; first | done | rfl)
      have hz := hb.size
      (try simp only [World.size_alloc, World.size_setCell, World.size_drew] at hz)
      have hlp' : w.heap.size < u7.heap.size := by omega
      have hB' : Below w.heap.size w u7 := by
          refine kb ?_ hb
          go_grown
      clear hp_0 hp_1 hp_2 hp_3 hx_0 hx_1 hx_2 hq_0 hq_1 hq_2 hq_3 hlp hlx hlq hnp0 hnp1 hkp1 hnp2 hkp2 hnx0 hkx1 hnq0 hnq1 hkq1 hnq2 hkq2 hB hsz
      clear hb hz
      obtain ⟨hp_0, hp_1, hp_2, hp_3⟩ := T
      have hlp := hlp'; clear hlp'
      have hnp0 : ¬ (w.heap.size = u7.heap.size) := by omega
      have hnp1 : ¬ (w.heap.size = u7.heap.size + 1) := by omega
      have hkp1 : w.heap.size < u7.heap.size + 1 := by omega
      have hnp2 : ¬ (w.heap.size = u7.heap.size + 1 + 1) := by omega
      have hkp2 : w.heap.size < u7.heap.size + 1 + 1 := by omega
      have hB := hB'; clear hB'
      have hsz := hB.size
      go_wp2
      go_ret
      exact ⟨rfl, hB⟩
    · subst h1
      clear h0
      go_wp2_with fail
      ((with_reducible refine (HA.out _ (by go_grown)).mono ?_); rintro _ u7 ⟨rfl, hb⟩)
      have T : u7.cell? ⟨w.heap.size, 0, none⟩ = some (.slice a1 n1 c1) ∧ u7.cell? ⟨w.heap.size, 1, none⟩ = some (.slice a2 n2 c2) ∧ u7.cell? ⟨w.heap.size, 2, none⟩ = some (.int .i64 pd) ∧ u7.cell? ⟨w.heap.size, 3, none⟩ = some (.int .i64 pt) := by
          refine ⟨?_, ?_, ?_, ?_⟩ <;> refine kc hb ?_ <;> (go_simp; first | done | rfl)
      have hz := hb.size
      (try simp only [World.size_alloc, World.size_setCell, World.size_drew] at hz)
      have hlp' : w.heap.size < u7.heap.size := by omega
      have hB' : Below w.heap.size w u7 := by
          refine kb ?_ hb
          go_grown
      clear hp_0 hp_1 hp_2 hp_3 hx_0 hx_1 hx_2 hq_0 hq_1 hq_2 hq_3 hlp hlx hlq hnp0 hnp1 hkp1 hnp2 hkp2 hnx0 hkx1 hnq0 hnq1 hkq1 hnq2 hkq2 hB hsz
      clear hb hz
      obtain ⟨hp_0, hp_1, hp_2, hp_3⟩ := T
      have hlp := hlp'; clear hlp'
      have hnp0 : ¬ (w.heap.size = u7.heap.size) := by omega
      have hnp1 : ¬ (w.heap.size = u7.heap.size + 1) := by omega
      have hkp1 : w.heap.size < u7.heap.size + 1 := by omega
      have hnp2 : ¬ (w.heap.size = u7.heap.size + 1 + 1) := by omega
      have hkp2 : w.heap.size < u7.heap.size + 1 + 1 := by omega
      have hB := hB'; clear hB'
      have hsz := hB.size
      go_wp2
      go_ret
      exact ⟨rfl, hB⟩
  · obtain rfl : E = 0 := Classical.byContradiction h0
    clear h0
    have HQ6 := Lib.hid (fun W (hb : Below u6.heap.size u6 W) => HQQ.out W (hs_u6.out.trans (hb.mono hs_u6.out.size)))
    obtain ⟨L2, hpr, hback⟩ := one_facts HEQ.out HBq.out
    have HPr := Lib.hid (fun v W hv (hb : Below w.heap.size w W) => (show Calls Tryd.prog 8 #[v] W (fun e w' => e = .returned (.tuple #[.string (txB L2), .int .i64 0]) ∧ Below W.heap.size W w') from by have h := HPq.out v W hv hb; rw [hpr] at h; exact h))
    have HS2 := Lib.hid (fun W => parse_c L2 W)
    rw [hback, ← HQ.out] at HS2
    unfold ParseEnd sortP at HS2
    dsimp only at HS2
    have HIn := Lib.hid (sortS_mem' (l := LK ++ [⟨xf, xt, xb⟩]) (x := ⟨xf, xt, xb⟩) (by simp))
    have HLr := Lib.hid (And.intro (sortS_len LS) (sortS_len LK))
    have HLx := Lib.hid (sortS_len (LK ++ [⟨xf, xt, xb⟩]))
    generalize sortS (LK ++ [⟨xf, xt, xb⟩]) = RX at HS2 HIn HLx
    generalize sortS LS = RO at HS2 HLr
    generalize txB L2 = T2 at HPr HS2
    clear hpr hback HPq HQQ hs_u6
    have hN1 : RX.length = n2 + 1 := by rw [HLx.out, HN6.out]
    have hN2 : RO.length = n1 := by have h1 := HLr.out; have h2 := HL.out; omega
    have HNN := Lib.hid (And.intro hN1 hN2)
    clear hN1 hN2
    go_wp2_with fail
    ((with_reducible refine (HPr.out _ _ (HQ6.out _ (Below.refl _ _)) (by go_grown)).mono ?_); rintro _ u7 ⟨rfl, hb⟩)
    have T : u7.cell? ⟨w.heap.size, 0, none⟩ = some (.slice a1 n1 c1) ∧ u7.cell? ⟨w.heap.size, 1, none⟩ = some (.slice a2 n2 c2) ∧ u7.cell? ⟨w.heap.size, 2, none⟩ = some (.int .i64 pd) ∧ u7.cell? ⟨w.heap.size, 3, none⟩ = some (.int .i64 pt) ∧ u7.cell? ⟨w.heap.size + 1, 0, none⟩ = some (.int .i64 xf) ∧ u7.cell? ⟨w.heap.size + 1, 1, none⟩ = some (.int .i64 xt) ∧ u7.cell? ⟨w.heap.size + 1, 2, none⟩ = some (.int .u8 xb) := by
        refine ⟨?_, ?_, ?_, ?_, ?_, ?_, ?_⟩ <;> refine kc hb ?_ <;> (go_simp; first | done | rfl)
    have hz := hb.size
    (try simp only [World.size_alloc, World.size_setCell, World.size_drew] at hz)
    have hlp' : w.heap.size < u7.heap.size := by omega
    have hlx' : w.heap.size + 1 < u7.heap.size := by omega
    have hB' : Below w.heap.size w u7 := by
        refine kb ?_ hb
        go_grown
    clear hp_0 hp_1 hp_2 hp_3 hlp hnp0 hnp1 hkp1 hnp2 hkp2 hB hsz
    clear hb hz
    obtain ⟨hp_0, hp_1, hp_2, hp_3, hx_0, hx_1, hx_2⟩ := T
    have hlp := hlp'; clear hlp'
    have hlx := hlx'; clear hlx'
    have hnp0 : ¬ (w.heap.size = u7.heap.size) := by omega
    have hnp1 : ¬ (w.heap.size = u7.heap.size + 1) := by omega
    have hkp1 : w.heap.size < u7.heap.size + 1 := by omega
    have hnp2 : ¬ (w.heap.size = u7.heap.size + 1 + 1) := by omega
    have hkp2 : w.heap.size < u7.heap.size + 1 + 1 := by omega
    have hnx0 : ¬ (w.heap.size + 1 = u7.heap.size) := by omega
    have hkx1 : w.heap.size < u7.heap.size := by omega
    have hB := hB'; clear hB'
    have hsz := hB.size
    go_wp2_with fail
    ((with_reducible refine (HS2.out _).mono ?_); rintro _ u8 ⟨v7, v8, rfl, h7, h8, _, _, hb⟩)
    have hs_u8 := Lib.hid hb
    have T : u8.cell? ⟨w.heap.size, 0, none⟩ = some (.slice a1 n1 c1) ∧ u8.cell? ⟨w.heap.size, 1, none⟩ = some (.slice a2 n2 c2) ∧ u8.cell? ⟨w.heap.size, 2, none⟩ = some (.int .i64 pd) ∧ u8.cell? ⟨w.heap.size, 3, none⟩ = some (.int .i64 pt) ∧ u8.cell? ⟨w.heap.size + 1, 0, none⟩ = some (.int .i64 xf) ∧ u8.cell? ⟨w.heap.size + 1, 1, none⟩ = some (.int .i64 xt) ∧ u8.cell? ⟨w.heap.size + 1, 2, none⟩ = some (.int .u8 xb) := by
        refine ⟨?_, ?_, ?_, ?_, ?_, ?_, ?_⟩ <;> refine kc hb ?_ <;> (go_simp; first | done | rfl)
    have hz := hb.size
    (try simp only [World.size_alloc, World.size_setCell, World.size_drew] at hz)
    have hlp' : w.heap.size < u8.heap.size := by omega
    have hlx' : w.heap.size + 1 < u8.heap.size := by omega
    have hB' : Below w.heap.size w u8 := by
        refine kb ?_ hb
        go_grown
    clear hp_0 hp_1 hp_2 hp_3 hx_0 hx_1 hx_2 hlp hlx hnp0 hnp1 hkp1 hnp2 hkp2 hnx0 hkx1 hB hsz
    clear hb hz
    obtain ⟨hp_0, hp_1, hp_2, hp_3, hx_0, hx_1, hx_2⟩ := T
    have hlp := hlp'; clear hlp'
    have hlx := hlx'; clear hlx'
    have hnp0 : ¬ (w.heap.size = u8.heap.size) := by omega
    have hnp1 : ¬ (w.heap.size = u8.heap.size + 1) := by omega
    have hkp1 : w.heap.size < u8.heap.size + 1 := by omega
    have hnp2 : ¬ (w.heap.size = u8.heap.size + 1 + 1) := by omega
    have hkp2 : w.heap.size < u8.heap.size + 1 + 1 := by omega
    have hnx0 : ¬ (w.heap.size + 1 = u8.heap.size) := by omega
    have hkx1 : w.heap.size < u8.heap.size := by omega
    have hB := hB'; clear hB'
    have hsz := hB.size
    obtain ⟨p7, c7, rfl⟩ := h7.form
    obtain ⟨p8, c8, rfl⟩ := h8.form
    rw [HNN.out.2] at h7 ⊢
    rw [HNN.out.1] at h8 ⊢
    have HX := Lib.hid h8
    clear h7 h8
    have HB0 := Lib.hid hB
    have HA2 := Lib.hid (fun W (hb : Below u8.heap.size u8 W) => HA.out W (HB0.out.trans (hb.mono HB0.out.size)))
    have hyy : Below u8.heap.size u8 u8 := Below.refl _ _
    go_wp2
    refine wp_pin (fun w' => w'.cell? ⟨w.heap.size, 0, none⟩ = some (.slice a1 n1 c1) ∧ w'.cell? ⟨w.heap.size, 1, none⟩ = some (.slice a2 n2 c2) ∧ w'.cell? ⟨w.heap.size, 2, none⟩ = some (.int .i64 pd) ∧ w'.cell? ⟨w.heap.size, 3, none⟩ = some (.int .i64 pt) ∧ w'.cell? ⟨w.heap.size + 1, 0, none⟩ = some (.int .i64 xf) ∧ w'.cell? ⟨w.heap.size + 1, 1, none⟩ = some (.int .i64 xt) ∧ w'.cell? ⟨w.heap.size + 1, 2, none⟩ = some (.int .u8 xb) ∧ w'.cell? ⟨u8.heap.size, 0, none⟩ = some (.slice p7 n1 c7) ∧ w'.cell? ⟨u8.heap.size, 1, none⟩ = some (.slice p8 (n2 + 1) c8) ∧ w'.cell? ⟨u8.heap.size, 2, none⟩ = some (.int .i64 pd) ∧ w'.cell? ⟨u8.heap.size, 3, none⟩ = some (.int .i64 pt) ∧ Below u8.heap.size u8 w') ?_ ?_
    · (try dsimp only)
      refine ⟨?_, ?_, ?_, ?_, ?_, ?_, ?_, ?_, ?_, ?_, ?_, ?_⟩ <;> first | (go_simp; done) | (simp [*]; done) | go_grown
    intro u9 T
    (try dsimp only at T)
    clear hp_0 hp_1 hp_2 hp_3 hx_0 hx_1 hx_2 hlp hlx hnp0 hnp1 hkp1 hnp2 hkp2 hnx0 hkx1 hB hsz
    obtain ⟨hp_0, hp_1, hp_2, hp_3, hx_0, hx_1, hx_2, hr_0, hr_1, hr_2, hr_3, hB⟩ := T
    have hsz := hB.size
    have hlp := klt hp_0
    have hlx := klt hx_0
    have hlr := klt hr_0
    have hnp0 : ¬ (w.heap.size = u9.heap.size) := by omega
    have hnp1 : ¬ (w.heap.size = u9.heap.size + 1) := by omega
    have hkp1 : w.heap.size < u9.heap.size + 1 := by omega
    have hnp2 : ¬ (w.heap.size = u9.heap.size + 1 + 1) := by omega
    have hkp2 : w.heap.size < u9.heap.size + 1 + 1 := by omega
    have hnx0 : ¬ (w.heap.size + 1 = u9.heap.size) := by omega
    have hkx1 : w.heap.size < u9.heap.size := by omega
    have hnr0 : ¬ (u8.heap.size = u9.heap.size) := by omega
    have hnr1 : ¬ (u8.heap.size = u9.heap.size + 1) := by omega
    have hkr1 : u8.heap.size < u9.heap.size + 1 := by omega
    have hnr2 : ¬ (u8.heap.size = u9.heap.size + 1 + 1) := by omega
    have hkr2 : u8.heap.size < u9.heap.size + 1 + 1 := by omega
    have HB9 := Lib.hid hB
    have HA3 := Lib.hid (fun W (hb : Below u9.heap.size u9 W) => HA2.out W (HB9.out.trans (hb.mono HB9.out.size)))
    have HX9 := Lib.hid (HoldsE.below HX.out hB)
    have hyy9 : Below u9.heap.size u9 u9 := Below.refl _ _
    have HF9 := Lib.hid (And.intro hp_0 (And.intro hp_1 (And.intro hp_2 (And.intro hp_3 (And.intro hx_0 (And.intro hx_1 (And.intro hx_2 (And.intro hr_0 (And.intro hr_1 (And.intro hr_2 (And.intro hr_3 hyy9)))))))))))
    go_loopg [16, 17] (n2 + 1) (fun kx s16 s17 wr => ∃ k : Nat, s17 = .int .i64 (k : Int) ∧ s16 = .bool (isIn ⟨xf, xt, xb⟩ RX k) ∧ k ≤ n2 + 1 ∧ n2 + 1 - k ≤ kx ∧ Below u9.heap.size u9 wr)
    case atStart => exact ⟨0, by go_num, rfl, by omega, by omega, Below.refl _ _⟩
    case round =>
      obtain ⟨k, rfl, rfl, hk, hkx, hb9⟩ := hrel
      obtain ⟨hp_0, hp_1, hp_2, hp_3, hx_0, hx_1, hx_2, hr_0, hr_1, hr_2, hr_3, hB⟩ := HF9.out
      have HC9 := And.intro (kc hb9 hp_0) (And.intro (kc hb9 hp_1) (And.intro (kc hb9 hp_2) (And.intro (kc hb9 hp_3) (And.intro (kc hb9 hx_0) (And.intro (kc hb9 hx_1) (And.intro (kc hb9 hx_2) (And.intro (kc hb9 hr_0) (And.intro (kc hb9 hr_1) (And.intro (kc hb9 hr_2) (And.intro (kc hb9 hr_3) (hb9)))))))))))
      have HK := Lib.hid hb9
      clear hb9
      clear hp_0 hp_1 hp_2 hp_3 hx_0 hx_1 hx_2 hr_0 hr_1 hr_2 hr_3 hB
      obtain ⟨hp_0, hp_1, hp_2, hp_3, hx_0, hx_1, hx_2, hr_0, hr_1, hr_2, hr_3, hB⟩ := HC9
      have hsz := hB.size
      have hlp := klt hp_0
      have hlx := klt hx_0
      have hlr := klt hr_0
      have hnp0 : ¬ (w.heap.size = wr.heap.size) := by omega
      have hnp1 : ¬ (w.heap.size = wr.heap.size + 1) := by omega
      have hkp1 : w.heap.size < wr.heap.size + 1 := by omega
      have hnp2 : ¬ (w.heap.size = wr.heap.size + 1 + 1) := by omega
      have hkp2 : w.heap.size < wr.heap.size + 1 + 1 := by omega
      have hnx0 : ¬ (w.heap.size + 1 = wr.heap.size) := by omega
      have hkx1 : w.heap.size < wr.heap.size := by omega
      have hnr0 : ¬ (u8.heap.size = wr.heap.size) := by omega
      have hnr1 : ¬ (u8.heap.size = wr.heap.size + 1) := by omega
      have hkr1 : u8.heap.size < wr.heap.size + 1 := by omega
      have hnr2 : ¬ (u8.heap.size = wr.heap.size + 1 + 1) := by omega
      have hkr2 : u8.heap.size < wr.heap.size + 1 + 1 := by omega
      have hn12 : n1 + n2 ≤ 64 := HL.out.2.2
      by_cases hlt : k < n2 + 1
      · have hk1 : k < RX.length := by rw [HNN.out.1]; exact hlt
        have hst := isIn_step (x := ⟨xf, xt, xb⟩) hk1
        have HXo := HX9.out
        obtain ⟨g8, o8, d8, e8, _, cc⟩ := HXo.some (by rw [HNN.out.1]; omega)
        obtain ⟨rfl, nn, rfl⟩ := Value.slice.inj e8
        clear e8 nn HXo
        obtain ⟨y0, y1, y2⟩ := get3 cc (List.getElem?_eq_getElem hk1)
        have HS := Lib.hid hst
        clear cc hst
        generalize RX[k] = y at *
        clear hk1
        obtain ⟨yf, yt, yb⟩ := y
        dsimp only at y0 y1 y2
        have q := sp_eql yf yt yb xf xt xb
        have y0 := kc hB y0
        have y1 := kc hB y1
        have y2 := kc hB y2
        obtain ⟨B, hBB⟩ : ∃ B, isIn ⟨xf, xt, xb⟩ RX k = B := ⟨_, rfl⟩
        rw [hBB] at HS ⊢
        clear hBB
        cases B
        · go_wp2_with fail
          refine wp_region_plan (fun w' => w'.cell? ⟨w.heap.size + 1, 0, none⟩ = some (.int .i64 xf) ∧ w'.cell? ⟨w.heap.size + 1, 1, none⟩ = some (.int .i64 xt) ∧ w'.cell? ⟨w.heap.size + 1, 2, none⟩ = some (.int .u8 xb) ∧ w'.cell? ⟨g8, o8 + k * 3, none⟩ = some (.int .i64 yf) ∧ w'.cell? ⟨g8, o8 + k * 3 + 1, none⟩ = some (.int .i64 yt) ∧ w'.cell? ⟨g8, o8 + k * 3 + 2, none⟩ = some (.int .u8 yb) ∧ Below u9.heap.size u9 w') (by kernel_rfl) (by kernel_rfl) (by kernel_rfl) ?_ ?_
          · (try dsimp only)
            refine ⟨?_, ?_, ?_, ?_, ?_, ?_, ?_⟩ <;> first | (go_simp; done) | (simp [*]; done) | go_grown
          repeat (first
            | (refine Plan.val (v := ?_) ?_ ?_ ?_; rotate_left; (· rfl); (· (intro W hSw; (try dsimp only at hSw); go_simp; all_goals (first | (with_reducible rfl) | (constructor <;> (with_reducible rfl)) | (rw [if_neg (by omega)]; done) | (rw [if_neg (by omega)]; with_reducible rfl)))); (try simp only [Act.put, List.setIfInBounds_toArray, List.set_cons_zero, List.set_cons_succ]))
            | (refine Plan.no ?_ ?_; (· rfl); (try simp only [Act.put, List.setIfInBounds_toArray, List.set_cons_zero, List.set_cons_succ])))
          refine Plan.done ?_
          intro u10 T
          (try dsimp only at T)
          clear hp_0 hp_1 hp_2 hp_3 hx_0 hx_1 hx_2 hr_0 hr_1 hr_2 hr_3 hB hsz hlp hlx hlr hnp0 hnp1 hkp1 hnp2 hkp2 hnx0 hkx1 hnr0 hnr1 hkr1 hnr2 hkr2
          obtain ⟨hx_0, hx_1, hx_2, hy_0, hy_1, hy_2, hB⟩ := T
          have hsz := hB.size
          have hlx := klt hx_0
          have hly := klt hy_0
          have hnx0 : ¬ (w.heap.size + 1 = u10.heap.size) := by omega
          have hnx1 : ¬ (w.heap.size = u10.heap.size) := by omega
          have hkx1 : w.heap.size < u10.heap.size := by omega
          have hnx2 : ¬ (w.heap.size = u10.heap.size + 1) := by omega
          have hkx2 : w.heap.size < u10.heap.size + 1 := by omega
          have hny0 : ¬ (g8 = u10.heap.size) := by omega
          have hny1 : ¬ (g8 = u10.heap.size + 1) := by omega
          have hky1 : g8 < u10.heap.size + 1 := by omega
          have hny2 : ¬ (g8 = u10.heap.size + 1 + 1) := by omega
          have hky2 : g8 < u10.heap.size + 1 + 1 := by omega
          have hval : (decide (yf = xf) && (decide (yt = xt) && decide (yb = xb))) = isIn ⟨xf, xt, xb⟩ RX (k + 1) := by rw [HS.out]; simp only [Bool.false_or, Sp.mk.injEq, Bool.decide_and]
          rw [hval]
          clear hval q
          go_wp2
          go_roundg (n2 + 1 - (k + 1))
          case measure => omega
          case rel => exact ⟨k + 1, by go_num, rfl, by omega, by omega, hB⟩
        · go_wp2_with fail
          refine wp_region_plan (fun w' => w'.cell? ⟨w.heap.size + 1, 0, none⟩ = some (.int .i64 xf) ∧ w'.cell? ⟨w.heap.size + 1, 1, none⟩ = some (.int .i64 xt) ∧ w'.cell? ⟨w.heap.size + 1, 2, none⟩ = some (.int .u8 xb) ∧ Below u9.heap.size u9 w') (by kernel_rfl) (by kernel_rfl) (by kernel_rfl) ?_ ?_
          · (try dsimp only)
            refine ⟨?_, ?_, ?_, ?_⟩ <;> first | (go_simp; done) | (simp [*]; done) | go_grown
          repeat (first
            | (refine Plan.val (v := ?_) ?_ ?_ ?_; rotate_left; (· rfl); (· (intro W hSw; (try dsimp only at hSw); go_simp; all_goals (first | (with_reducible rfl) | (constructor <;> (with_reducible rfl)) | (rw [if_neg (by omega)]; done) | (rw [if_neg (by omega)]; with_reducible rfl)))); (try simp only [Act.put, List.setIfInBounds_toArray, List.set_cons_zero, List.set_cons_succ]))
            | (refine Plan.no ?_ ?_; (· rfl); (try simp only [Act.put, List.setIfInBounds_toArray, List.set_cons_zero, List.set_cons_succ])))
          refine Plan.done ?_
          intro u10 T
          (try dsimp only at T)
          clear hp_0 hp_1 hp_2 hp_3 hx_0 hx_1 hx_2 hr_0 hr_1 hr_2 hr_3 hB hsz hlp hlx hlr hnp0 hnp1 hkp1 hnp2 hkp2 hnx0 hkx1 hnr0 hnr1 hkr1 hnr2 hkr2
          obtain ⟨hx_0, hx_1, hx_2, hB⟩ := T
          have hsz := hB.size
          have hlx := klt hx_0
          have hnx0 : ¬ (w.heap.size + 1 = u10.heap.size) := by omega
          have hnx1 : ¬ (w.heap.size = u10.heap.size) := by omega
          have hkx1 : w.heap.size < u10.heap.size := by omega
          have hnx2 : ¬ (w.heap.size = u10.heap.size + 1) := by omega
          have hkx2 : w.heap.size < u10.heap.size + 1 := by omega
          have HVl := Lib.hid (show true = isIn ⟨xf, xt, xb⟩ RX (k + 1) from by rw [HS.out]; rfl)
          clear q
          go_wp2
          go_roundg (n2 + 1 - (k + 1))
          case measure => omega
          case rel => exact ⟨k + 1, by go_num, congrArg Value.bool HVl.out, by omega, by omega, hB⟩
      · obtain rfl : k = n2 + 1 := by omega
        have hall : isIn ⟨xf, xt, xb⟩ RX (n2 + 1) = true := isIn_all (by rw [HNN.out.1]; exact Nat.le_refl _) HIn.out
        rw [hall]
        go_wp2_with fail
        ((with_reducible refine (HA3.out _ (by go_grown)).mono ?_); rintro _ u11 ⟨rfl, hb⟩)
        have T : u11.cell? ⟨w.heap.size, 0, none⟩ = some (.slice a1 n1 c1) ∧ u11.cell? ⟨w.heap.size, 1, none⟩ = some (.slice a2 n2 c2) ∧ u11.cell? ⟨w.heap.size, 2, none⟩ = some (.int .i64 pd) ∧ u11.cell? ⟨w.heap.size, 3, none⟩ = some (.int .i64 pt) ∧ u11.cell? ⟨w.heap.size + 1, 0, none⟩ = some (.int .i64 xf) ∧ u11.cell? ⟨w.heap.size + 1, 1, none⟩ = some (.int .i64 xt) ∧ u11.cell? ⟨w.heap.size + 1, 2, none⟩ = some (.int .u8 xb) ∧ u11.cell? ⟨u8.heap.size, 0, none⟩ = some (.slice p7 n1 c7) ∧ u11.cell? ⟨u8.heap.size, 1, none⟩ = some (.slice p8 (n2 + 1) c8) ∧ u11.cell? ⟨u8.heap.size, 2, none⟩ = some (.int .i64 pd) ∧ u11.cell? ⟨u8.heap.size, 3, none⟩ = some (.int .i64 pt) := by
            refine ⟨?_, ?_, ?_, ?_, ?_, ?_, ?_, ?_, ?_, ?_, ?_⟩ <;> refine kc hb ?_ <;> (go_simp; first | done | rfl)
        have hz := hb.size
        (try simp only [World.size_alloc, World.size_setCell, World.size_drew] at hz)
        have hlp' : w.heap.size < u11.heap.size := by omega
        have hlx' : w.heap.size + 1 < u11.heap.size := by omega
        have hlr' : u8.heap.size < u11.heap.size := by omega
        have hB' : Below u9.heap.size u9 u11 := by
            refine kb ?_ hb
            go_grown
        clear hp_0 hp_1 hp_2 hp_3 hx_0 hx_1 hx_2 hr_0 hr_1 hr_2 hr_3 hB hsz hlp hlx hlr hnp0 hnp1 hkp1 hnp2 hkp2 hnx0 hkx1 hnr0 hnr1 hkr1 hnr2 hkr2
        clear hb hz
        obtain ⟨hp_0, hp_1, hp_2, hp_3, hx_0, hx_1, hx_2, hr_0, hr_1, hr_2, hr_3⟩ := T
        have hlp := hlp'; clear hlp'
        have hlx := hlx'; clear hlx'
        have hlr := hlr'; clear hlr'
        have hnp0 : ¬ (w.heap.size = u11.heap.size) := by omega
        have hnp1 : ¬ (w.heap.size = u11.heap.size + 1) := by omega
        have hkp1 : w.heap.size < u11.heap.size + 1 := by omega
        have hnp2 : ¬ (w.heap.size = u11.heap.size + 1 + 1) := by omega
        have hkp2 : w.heap.size < u11.heap.size + 1 + 1 := by omega
        have hnx0 : ¬ (w.heap.size + 1 = u11.heap.size) := by omega
        have hkx1 : w.heap.size < u11.heap.size := by omega
        have hnr0 : ¬ (u8.heap.size = u11.heap.size) := by omega
        have hnr1 : ¬ (u8.heap.size = u11.heap.size + 1) := by omega
        have hkr1 : u8.heap.size < u11.heap.size + 1 := by omega
        have hnr2 : ¬ (u8.heap.size = u11.heap.size + 1 + 1) := by omega
        have hkr2 : u8.heap.size < u11.heap.size + 1 + 1 := by omega
        have hB := hB'; clear hB'
        have hsz := hB.size
        go_wp2
        go_ret
        exact ⟨rfl, HB0.out.trans ((HB9.out.trans (hB.mono HB9.out.size)).mono HB0.out.size)⟩
set_option maxRecDepth 100000 in
set_option maxHeartbeats 8000000 in
theorem one_ok_false (P : Pol) (hb8 : Bits P) (v : Value) (x : Sp) (hx8 : 0 ≤ x.b ∧ x.b ≤ 255) (w : World) (hv : HoldsP w v P) (hT : w.cell? ⟨5, 15, none⟩ = some (.int .u8 4)) (hF : P.s.length ≤ 80 ∧ P.k.length ≤ 80) (hE : checkM P = 0) : Calls Tryd.prog 5 #[v, .agg x.cells.toArray, .bool false] w (LawEnd w) := by
  have HA := Lib.hid (fun W (hb : Below w.heap.size w W) => awake7_c W (kc hb hT))
  have HFw := Lib.hid (fun W (hb : Below w.heap.size w W) => few_c P v W (hv.below hb))
  rw [decide_eq_true hF.1, decide_eq_true hF.2] at HFw
  have HCl := Lib.hid (fun W (hb : Below w.heap.size w W) => check_c P ⟨by omega, by omega⟩ v W (hv.below hb))
  rw [hE] at HCl
  have HSo := Lib.hid (fun W (hb : Below w.heap.size w W) => sorted_c P ⟨by omega, by omega⟩ v W (hv.below hb))
  unfold AnsP sortP at HSo
  dsimp only at HSo
  have hl1 := sortS_len P.s
  have hl2 := sortS_len P.k
  have hbq := oneP_bits (sink := false) hb8 hx8
  have hQ : oneP P x false = ⟨sortS P.s ++ [x], sortS P.k, P.d, P.t⟩ := rfl
  rw [hQ] at hbq
  have hlen := check_len hE
  obtain ⟨v1, v2, rfl, h1, h2⟩ := hv
  obtain ⟨a1, c1, rfl⟩ := h1.form
  obtain ⟨a2, c2, rfl⟩ := h2.form
  obtain ⟨ps, pk, pd, pt⟩ := P
  dsimp only at HA HFw HCl HSo hl1 hl2 hbq hF hlen ⊢
  generalize sortS ps = LS at *
  generalize sortS pk = LK at *
  obtain ⟨n1, hn1⟩ : ∃ n, ps.length = n := ⟨_, rfl⟩
  obtain ⟨n2, hn2⟩ : ∃ n, pk.length = n := ⟨_, rfl⟩
  rw [hn1] at hl1
  rw [hn2] at hl2
  rw [hn1, hn2] at HFw HCl HSo hF hlen ⊢
  have HL := Lib.hid (show LS.length = n1 ∧ LK.length = n2 ∧ n1 + n2 ≤ 64 from ⟨hl1, hl2, hlen⟩)
  obtain ⟨Q, hQe⟩ : ∃ Q, (⟨LS ++ [x], LK, pd, pt⟩ : Pol) = Q := ⟨_, rfl⟩
  have hsl : Q.s.length ≤ 100 ∧ Q.k.length ≤ 100 := by rw [← hQe]; constructor <;> (try simp only [List.length_append, List.length_cons, List.length_nil]) <;> omega
  have HCq := Lib.hid (fun v W hv => check_c Q ⟨by omega, by omega⟩ v W hv)
  have HPq := Lib.hid (fun v W hv (hb : Below w.heap.size w W) => print_c Q ⟨by omega, by omega⟩ (hQe ▸ hbq) v W hv (kc hb hT))
  have HBq := Lib.hid (show Bits Q from hQe ▸ hbq)
  have HQ := Lib.hid hQe
  clear h1 h2 hb8 hE hF hl1 hl2 hQ hbq hsl hlen hn1 hn2 hQe
  obtain ⟨xf, xt, xb⟩ := x
  dsimp only at hx8
  show Calls Tryd.prog _ #[_, .agg #[.int .i64 xf, .int .i64 xt, .int .u8 xb], _] w _
  obtain ⟨i0, hi, hz0, hz1, hz2⟩ := info_parts Tryd.infoS
  go_enter Tryd.func5, Tryd.ntmps5
  go_wp2_with fail
  ((with_reducible refine (HFw.out _ (by go_grown)).mono ?_); rintro _ u1 ⟨rfl, hb⟩)
  have T : u1.cell? ⟨w.heap.size, 0, none⟩ = some (.slice a1 n1 c1) ∧ u1.cell? ⟨w.heap.size, 1, none⟩ = some (.slice a2 n2 c2) ∧ u1.cell? ⟨w.heap.size, 2, none⟩ = some (.int .i64 pd) ∧ u1.cell? ⟨w.heap.size, 3, none⟩ = some (.int .i64 pt) ∧ u1.cell? ⟨w.heap.size + 1, 0, none⟩ = some (.int .i64 xf) ∧ u1.cell? ⟨w.heap.size + 1, 1, none⟩ = some (.int .i64 xt) ∧ u1.cell? ⟨w.heap.size + 1, 2, none⟩ = some (.int .u8 xb) := by
      refine ⟨?_, ?_, ?_, ?_, ?_, ?_, ?_⟩ <;> refine kc hb ?_ <;> (go_simp; first | done | rfl)
  have hz := hb.size
  (try simp only [World.size_alloc, World.size_setCell, World.size_drew] at hz)
  have hlp' : w.heap.size < u1.heap.size := by omega
  have hlx' : w.heap.size + 1 < u1.heap.size := by omega
  have hB' : Below w.heap.size w u1 := by
      refine kb ?_ hb
      go_grown
  clear hb hz
  obtain ⟨hp_0, hp_1, hp_2, hp_3, hx_0, hx_1, hx_2⟩ := T
  have hlp := hlp'; clear hlp'
  have hlx := hlx'; clear hlx'
  have hnp0 : ¬ (w.heap.size = u1.heap.size) := by omega
  have hnp1 : ¬ (w.heap.size = u1.heap.size + 1) := by omega
  have hkp1 : w.heap.size < u1.heap.size + 1 := by omega
  have hnp2 : ¬ (w.heap.size = u1.heap.size + 1 + 1) := by omega
  have hkp2 : w.heap.size < u1.heap.size + 1 + 1 := by omega
  have hnx0 : ¬ (w.heap.size + 1 = u1.heap.size) := by omega
  have hkx1 : w.heap.size < u1.heap.size := by omega
  have hB := hB'; clear hB'
  have hsz := hB.size
  go_wp2_with fail
  ((with_reducible refine (HCl.out _ (by go_grown)).mono ?_); rintro _ u2 ⟨rfl, hb⟩)
  have T : u2.cell? ⟨w.heap.size, 0, none⟩ = some (.slice a1 n1 c1) ∧ u2.cell? ⟨w.heap.size, 1, none⟩ = some (.slice a2 n2 c2) ∧ u2.cell? ⟨w.heap.size, 2, none⟩ = some (.int .i64 pd) ∧ u2.cell? ⟨w.heap.size, 3, none⟩ = some (.int .i64 pt) ∧ u2.cell? ⟨w.heap.size + 1, 0, none⟩ = some (.int .i64 xf) ∧ u2.cell? ⟨w.heap.size + 1, 1, none⟩ = some (.int .i64 xt) ∧ u2.cell? ⟨w.heap.size + 1, 2, none⟩ = some (.int .u8 xb) := by
      refine ⟨?_, ?_, ?_, ?_, ?_, ?_, ?_⟩ <;> refine kc hb ?_ <;> (go_simp; first | done | rfl)
  have hz := hb.size
  (try simp only [World.size_alloc, World.size_setCell, World.size_drew] at hz)
  have hlp' : w.heap.size < u2.heap.size := by omega
  have hlx' : w.heap.size + 1 < u2.heap.size := by omega
  have hB' : Below w.heap.size w u2 := by
      refine kb ?_ hb
      go_grown
  clear hp_0 hp_1 hp_2 hp_3 hx_0 hx_1 hx_2 hlp hlx hnp0 hnp1 hkp1 hnp2 hkp2 hnx0 hkx1 hB hsz
  clear hb hz
  obtain ⟨hp_0, hp_1, hp_2, hp_3, hx_0, hx_1, hx_2⟩ := T
  have hlp := hlp'; clear hlp'
  have hlx := hlx'; clear hlx'
  have hnp0 : ¬ (w.heap.size = u2.heap.size) := by omega
  have hnp1 : ¬ (w.heap.size = u2.heap.size + 1) := by omega
  have hkp1 : w.heap.size < u2.heap.size + 1 := by omega
  have hnp2 : ¬ (w.heap.size = u2.heap.size + 1 + 1) := by omega
  have hkp2 : w.heap.size < u2.heap.size + 1 + 1 := by omega
  have hnx0 : ¬ (w.heap.size + 1 = u2.heap.size) := by omega
  have hkx1 : w.heap.size < u2.heap.size := by omega
  have hB := hB'; clear hB'
  have hsz := hB.size
  go_wp2_with fail
  ((with_reducible refine (HSo.out _ (by go_grown)).mono ?_); rintro _ u3 ⟨v3, v4, rfl, h3, h4, hy3, hy4, hb⟩)
  have hs_u3 := Lib.hid hb
  have T : u3.cell? ⟨w.heap.size, 0, none⟩ = some (.slice a1 n1 c1) ∧ u3.cell? ⟨w.heap.size, 1, none⟩ = some (.slice a2 n2 c2) ∧ u3.cell? ⟨w.heap.size, 2, none⟩ = some (.int .i64 pd) ∧ u3.cell? ⟨w.heap.size, 3, none⟩ = some (.int .i64 pt) ∧ u3.cell? ⟨w.heap.size + 1, 0, none⟩ = some (.int .i64 xf) ∧ u3.cell? ⟨w.heap.size + 1, 1, none⟩ = some (.int .i64 xt) ∧ u3.cell? ⟨w.heap.size + 1, 2, none⟩ = some (.int .u8 xb) := by
      refine ⟨?_, ?_, ?_, ?_, ?_, ?_, ?_⟩ <;> refine kc hb ?_ <;> (go_simp; first | done | rfl)
  have hz := hb.size
  (try simp only [World.size_alloc, World.size_setCell, World.size_drew] at hz)
  have hlp' : w.heap.size < u3.heap.size := by omega
  have hlx' : w.heap.size + 1 < u3.heap.size := by omega
  have hB' : Below w.heap.size w u3 := by
      refine kb ?_ hb
      go_grown
  clear hp_0 hp_1 hp_2 hp_3 hx_0 hx_1 hx_2 hlp hlx hnp0 hnp1 hkp1 hnp2 hkp2 hnx0 hkx1 hB hsz
  clear hb hz
  obtain ⟨hp_0, hp_1, hp_2, hp_3, hx_0, hx_1, hx_2⟩ := T
  have hlp := hlp'; clear hlp'
  have hlx := hlx'; clear hlx'
  have hnp0 : ¬ (w.heap.size = u3.heap.size) := by omega
  have hnp1 : ¬ (w.heap.size = u3.heap.size + 1) := by omega
  have hkp1 : w.heap.size < u3.heap.size + 1 := by omega
  have hnp2 : ¬ (w.heap.size = u3.heap.size + 1 + 1) := by omega
  have hkp2 : w.heap.size < u3.heap.size + 1 + 1 := by omega
  have hnx0 : ¬ (w.heap.size + 1 = u3.heap.size) := by omega
  have hkx1 : w.heap.size < u3.heap.size := by omega
  have hB := hB'; clear hB'
  have hsz := hB.size
  obtain ⟨a3, c3, rfl⟩ := h3.form
  obtain ⟨a4, c4, rfl⟩ := h4.form
  rw [HL.out.1] at h3 hy3 ⊢
  rw [HL.out.2.1] at h4 hy4 ⊢
  have HH := Lib.hid (And.intro h3 h4)
  clear h3 h4 hy3 hy4
  have hwu : w.heap.size + 1 < u3.heap.size := hlx
  go_wp2_with (at_builtin; refine wpList_append_holds sp_len (by decide) sp_one rfl _ _ 23 rfl (u3.heap.size + 1) 38 i0 _ 24 Tryd.underlying23 hi hz0 hz1 hz2 rfl _ 0 _ rfl (World.ownsRow_nil _ _ _ _) _ LS rfl (HoldsE.below HH.out.1 ((Below.refl _ u3).alloc (Nat.le_refl _) _)) ?c4 ?c5 ?c6 ?_)
  case c4 => have := HL.out; unfold maxLen; omega
  case c5 => have := HL.out; omega
  case c6 => simp
  intro v5 u4 ho hg
  rw [HL.out.1] at ho
  (try simp only [Nat.zero_add, List.nil_append] at ho)
  have hb : Below (u3.alloc (.cells #[.slice a3 n1 c3, .slice a4 n2 c4, .int .i64 pd, .int .i64 pt] 25)).heap.size (u3.alloc (.cells #[.slice a3 n1 c3, .slice a4 n2 c4, .int .i64 pd, .int .i64 pt] 25)) u4 := Below.grown (Below.refl _ _) hg (Nat.le_refl _) (fun k hk => by cases hk)
  have HC4 : (u4.cell? ⟨w.heap.size, 0, none⟩ = some (.slice a1 n1 c1) ∧ u4.cell? ⟨w.heap.size, 1, none⟩ = some (.slice a2 n2 c2) ∧ u4.cell? ⟨w.heap.size, 2, none⟩ = some (.int .i64 pd) ∧ u4.cell? ⟨w.heap.size, 3, none⟩ = some (.int .i64 pt) ∧ u4.cell? ⟨w.heap.size + 1, 0, none⟩ = some (.int .i64 xf) ∧ u4.cell? ⟨w.heap.size + 1, 1, none⟩ = some (.int .i64 xt) ∧ u4.cell? ⟨w.heap.size + 1, 2, none⟩ = some (.int .u8 xb) ∧ u4.cell? ⟨u3.heap.size, 0, none⟩ = some (.slice a3 n1 c3) ∧ u4.frozen? ⟨u3.heap.size, 0, none⟩ = false ∧ u4.cell? ⟨u3.heap.size, 1, none⟩ = some (.slice a4 n2 c4) ∧ u4.frozen? ⟨u3.heap.size, 1, none⟩ = false ∧ u4.cell? ⟨u3.heap.size, 2, none⟩ = some (.int .i64 pd) ∧ u4.frozen? ⟨u3.heap.size, 2, none⟩ = false ∧ u4.cell? ⟨u3.heap.size, 3, none⟩ = some (.int .i64 pt) ∧ u4.frozen? ⟨u3.heap.size, 3, none⟩ = false ∧ Below w.heap.size w u4) := by
    refine ⟨?_, ?_, ?_, ?_, ?_, ?_, ?_, ?_, ?_, ?_, ?_, ?_, ?_, ?_, ?_, ?_⟩
    all_goals first | (refine kc hb ?_; go_simp; first | done | rfl) | (refine kfz hb (by simp only [World.size_alloc]; omega) ?_; go_simp; first | done | rfl) | (refine kb ?_ hb; go_grown)
  have HO := Lib.hid ho
  have HB4 := Lib.hid (show Below u3.heap.size u3 u4 from kbn (Nat.le_refl _) ((Below.refl _ u3).alloc (Nat.le_refl _) _) hb)
  have hz4 : u3.heap.size + 1 ≤ u4.heap.size := by have := hb.size; simpa using this
  clear ho hg hb
  clear hp_0 hp_1 hp_2 hp_3 hx_0 hx_1 hx_2 hlp hlx hnp0 hnp1 hkp1 hnp2 hkp2 hnx0 hkx1 hB hsz
  obtain ⟨hp_0, hp_1, hp_2, hp_3, hx_0, hx_1, hx_2, hq_0, fq_0, hq_1, fq_1, hq_2, fq_2, hq_3, fq_3, hB⟩ := HC4
  have hsz := hB.size
  have hlp := klt hp_0
  have hlx := klt hx_0
  have hlq := klt hq_0
  have hnp0 : ¬ (w.heap.size = u4.heap.size) := by omega
  have hnp1 : ¬ (w.heap.size = u4.heap.size + 1) := by omega
  have hkp1 : w.heap.size < u4.heap.size + 1 := by omega
  have hnp2 : ¬ (w.heap.size = u4.heap.size + 1 + 1) := by omega
  have hkp2 : w.heap.size < u4.heap.size + 1 + 1 := by omega
  have hnx0 : ¬ (w.heap.size + 1 = u4.heap.size) := by omega
  have hkx1 : w.heap.size < u4.heap.size := by omega
  have hnq0 : ¬ (u3.heap.size = u4.heap.size) := by omega
  have hnq1 : ¬ (u3.heap.size = u4.heap.size + 1) := by omega
  have hkq1 : u3.heap.size < u4.heap.size + 1 := by omega
  have hnq2 : ¬ (u3.heap.size = u4.heap.size + 1 + 1) := by omega
  have hkq2 : u3.heap.size < u4.heap.size + 1 + 1 := by omega
  obtain ⟨p5, c5, rfl⟩ := own_form HO.out
  go_wp2_with (at_builtin; refine wpList_append_holds sp_len (by decide) sp_one rfl _ _ 23 rfl (u3.heap.size + 1) 38 i0 _ 24 Tryd.underlying23 hi hz0 hz1 hz2 rfl _ _ _ rfl (own_below HO.out (by go_grown)) _ [⟨xf, xt, xb⟩] rfl (one_holdsS _ _ _ _ _) ?c4 ?c5 ?c6 ?_)
  case c4 => have := HL.out; unfold maxLen; simp only [List.length_cons, List.length_nil]; omega
  case c5 => have := HL.out; simp only [List.length_cons, List.length_nil]; omega
  case c6 => simp only [World.size_alloc]; omega
  intro v6 u5 ho hg
  have HO6 := Lib.hid (show u5.ownsRow (u3.heap.size + 1) 38 3 v6 (LS ++ [(⟨xf, xt, xb⟩ : Sp)]).length ((LS ++ [⟨xf, xt, xb⟩] : List Sp).flatMap Sp.cells) from by rw [List.length_append, HL.out.1, List.flatMap_append]; exact ho)
  have hb : Below (u3.heap.size + 1) (u4.alloc (.cells #[.int .i64 xf, .int .i64 xt, .int .u8 xb] 38)) u5 := Below.grown (Below.refl _ _) hg (by simp only [World.size_alloc]; omega) (fun k hk => (HO.out.lt k hk).1)
  have HC5 : (u5.cell? ⟨w.heap.size, 0, none⟩ = some (.slice a1 n1 c1) ∧ u5.cell? ⟨w.heap.size, 1, none⟩ = some (.slice a2 n2 c2) ∧ u5.cell? ⟨w.heap.size, 2, none⟩ = some (.int .i64 pd) ∧ u5.cell? ⟨w.heap.size, 3, none⟩ = some (.int .i64 pt) ∧ u5.cell? ⟨w.heap.size + 1, 0, none⟩ = some (.int .i64 xf) ∧ u5.cell? ⟨w.heap.size + 1, 1, none⟩ = some (.int .i64 xt) ∧ u5.cell? ⟨w.heap.size + 1, 2, none⟩ = some (.int .u8 xb) ∧ u5.cell? ⟨u3.heap.size, 0, none⟩ = some (.slice a3 n1 c3) ∧ u5.frozen? ⟨u3.heap.size, 0, none⟩ = false ∧ u5.cell? ⟨u3.heap.size, 1, none⟩ = some (.slice a4 n2 c4) ∧ u5.frozen? ⟨u3.heap.size, 1, none⟩ = false ∧ u5.cell? ⟨u3.heap.size, 2, none⟩ = some (.int .i64 pd) ∧ u5.frozen? ⟨u3.heap.size, 2, none⟩ = false ∧ u5.cell? ⟨u3.heap.size, 3, none⟩ = some (.int .i64 pt) ∧ u5.frozen? ⟨u3.heap.size, 3, none⟩ = false ∧ Below w.heap.size w u5) := by
    refine ⟨?_, ?_, ?_, ?_, ?_, ?_, ?_, ?_, ?_, ?_, ?_, ?_, ?_, ?_, ?_, ?_⟩
    iterate 15 (focus (first | (refine kcn hb (by omega) ?_; go_simp; first | done | rfl) | (refine kfn hb (by omega) ?_; go_simp; first | done | rfl)))
    exact Below.trans (by go_grown) (hb.mono (by omega))
  have HB5 := Lib.hid (show Below u3.heap.size u3 u5 from Below.trans (HB4.out.alloc HB4.out.size _) (hb.mono (by omega)))
  have hz5 : u3.heap.size + 1 ≤ u5.heap.size := by have := hb.size; simp only [World.size_alloc] at this; omega
  clear ho hg hb hz4 HB4
  clear hp_0 hp_1 hp_2 hp_3 hx_0 hx_1 hx_2 hq_0 fq_0 hq_1 fq_1 hq_2 fq_2 hq_3 fq_3 hB hsz hlp hlx hlq hnp0 hnp1 hkp1 hnp2 hkp2 hnx0 hkx1 hnq0 hnq1 hkq1 hnq2 hkq2
  obtain ⟨hp_0, hp_1, hp_2, hp_3, hx_0, hx_1, hx_2, hq_0, fq_0, hq_1, fq_1, hq_2, fq_2, hq_3, fq_3, hB⟩ := HC5
  have hsz := hB.size
  have hlp := klt hp_0
  have hlx := klt hx_0
  have hlq := klt hq_0
  have hnp0 : ¬ (w.heap.size = u5.heap.size) := by omega
  have hnp1 : ¬ (w.heap.size = u5.heap.size + 1) := by omega
  have hkp1 : w.heap.size < u5.heap.size + 1 := by omega
  have hnp2 : ¬ (w.heap.size = u5.heap.size + 1 + 1) := by omega
  have hkp2 : w.heap.size < u5.heap.size + 1 + 1 := by omega
  have hnx0 : ¬ (w.heap.size + 1 = u5.heap.size) := by omega
  have hkx1 : w.heap.size < u5.heap.size := by omega
  have hnq0 : ¬ (u3.heap.size = u5.heap.size) := by omega
  have hnq1 : ¬ (u3.heap.size = u5.heap.size + 1) := by omega
  have hkq1 : u3.heap.size < u5.heap.size + 1 := by omega
  have hnq2 : ¬ (u3.heap.size = u5.heap.size + 1 + 1) := by omega
  have hkq2 : u3.heap.size < u5.heap.size + 1 + 1 := by omega
  obtain ⟨p6, c6, rfl⟩ := own_form HO6.out
  have HN6 := Lib.hid (show (LS ++ [(⟨xf, xt, xb⟩ : Sp)]).length = n1 + 1 from by rw [List.length_append, HL.out.1]; rfl)
  rw [HN6.out] at HO6 ⊢
  clear HO
  have HQQ := Lib.hid (fun W (hb : Below (u5.setCell ⟨u3.heap.size, 0, none⟩ (.slice p6 (n1 + 1) c6)).heap.size (u5.setCell ⟨u3.heap.size, 0, none⟩ (.slice p6 (n1 + 1) c6)) W) => show HoldsP W (.agg #[.slice p6 (n1 + 1) c6, .slice a4 n2 c4, .int .i64 pd, .int .i64 pt]) Q from by
    rw [← HQ.out]
    have e1 : HoldsS u5 (.slice p6 (n1 + 1) c6) (LS ++ [⟨xf, xt, xb⟩]) := HoldsE.own sp_len (by rw [HN6.out]; exact HO6.out)
    have e2 := HoldsE.below (holdsE_set2 e1 (p := ⟨u3.heap.size, 0, none⟩) (fun _ g hg => by have := (HO6.out.lt g hg).1; show g ≠ u3.heap.size; omega) (.slice p6 (n1 + 1) c6)) hb
    have e3 := HoldsE.below HH.out.2 (kbn (Nat.le_refl _) (HB5.out.setCell (Nat.le_refl _) _) hb)
    exact holdsP_of e2 e3)
  obtain ⟨E, hEq⟩ : ∃ E, checkM Q = E := ⟨_, rfl⟩
  have hvals := check_vals Q
  rw [hEq] at hvals HCq
  have HVals := Lib.hid hvals
  have HEQ := Lib.hid hEq
  clear hvals hEq HH HO6 HB5
  go_wp2_with fail
  ((with_reducible refine (HCq.out _ _ (HQQ.out _ (Below.refl _ _))).mono ?_); rintro _ u6 ⟨rfl, hb⟩)
  have hs_u6 := Lib.hid hb
  have T : u6.cell? ⟨w.heap.size, 0, none⟩ = some (.slice a1 n1 c1) ∧ u6.cell? ⟨w.heap.size, 1, none⟩ = some (.slice a2 n2 c2) ∧ u6.cell? ⟨w.heap.size, 2, none⟩ = some (.int .i64 pd) ∧ u6.cell? ⟨w.heap.size, 3, none⟩ = some (.int .i64 pt) ∧ u6.cell? ⟨w.heap.size + 1, 0, none⟩ = some (.int .i64 xf) ∧ u6.cell? ⟨w.heap.size + 1, 1, none⟩ = some (.int .i64 xt) ∧ u6.cell? ⟨w.heap.size + 1, 2, none⟩ = some (.int .u8 xb) ∧ u6.cell? ⟨u3.heap.size, 0, none⟩ = some (.slice p6 (n1 + 1) c6) ∧ u6.cell? ⟨u3.heap.size, 1, none⟩ = some (.slice a4 n2 c4) ∧ u6.cell? ⟨u3.heap.size, 2, none⟩ = some (.int .i64 pd) ∧ u6.cell? ⟨u3.heap.size, 3, none⟩ = some (.int .i64 pt) := by
      refine ⟨?_, ?_, ?_, ?_, ?_, ?_, ?_, ?_, ?_, ?_, ?_⟩ <;> refine kc hb ?_ <;> (go_simp; first | done | rfl)
  have hz := hb.size
  (try simp only [World.size_alloc, World.size_setCell, World.size_drew] at hz)
  have hlp' : w.heap.size < u6.heap.size := by omega
  have hlx' : w.heap.size + 1 < u6.heap.size := by omega
  have hlq' : u3.heap.size < u6.heap.size := by omega
  have hB' : Below w.heap.size w u6 := by
      refine kb ?_ hb
      go_grown
  clear hp_0 hp_1 hp_2 hp_3 hx_0 hx_1 hx_2 hq_0 fq_0 hq_1 fq_1 hq_2 fq_2 hq_3 fq_3 hB hsz hlp hlx hlq hnp0 hnp1 hkp1 hnp2 hkp2 hnx0 hkx1 hnq0 hnq1 hkq1 hnq2 hkq2
  clear hb hz
  obtain ⟨hp_0, hp_1, hp_2, hp_3, hx_0, hx_1, hx_2, hq_0, hq_1, hq_2, hq_3⟩ := T
  have hlp := hlp'; clear hlp'
  have hlx := hlx'; clear hlx'
  have hlq := hlq'; clear hlq'
  have hnp0 : ¬ (w.heap.size = u6.heap.size) := by omega
  have hnp1 : ¬ (w.heap.size = u6.heap.size + 1) := by omega
  have hkp1 : w.heap.size < u6.heap.size + 1 := by omega
  have hnp2 : ¬ (w.heap.size = u6.heap.size + 1 + 1) := by omega
  have hkp2 : w.heap.size < u6.heap.size + 1 + 1 := by omega
  have hnx0 : ¬ (w.heap.size + 1 = u6.heap.size) := by omega
  have hkx1 : w.heap.size < u6.heap.size := by omega
  have hnq0 : ¬ (u3.heap.size = u6.heap.size) := by omega
  have hnq1 : ¬ (u3.heap.size = u6.heap.size + 1) := by omega
  have hkq1 : u3.heap.size < u6.heap.size + 1 := by omega
  have hnq2 : ¬ (u3.heap.size = u6.heap.size + 1 + 1) := by omega
  have hkq2 : u3.heap.size < u6.heap.size + 1 + 1 := by omega
  have hB := hB'; clear hB'
  have hsz := hB.size
  clear HCq
  by_cases h0 : E ≠ 0
  · clear HQQ hs_u6
    rcases HVals.out with h1 | h1 | h1 | h1 | h1
    · exact absurd h1 h0
    · subst h1
      clear h0
      go_wp2_with fail
      ((with_reducible refine (HA.out _ (by go_grown)).mono ?_); rintro _ u7 ⟨rfl, hb⟩)
      have T : u7.cell? ⟨w.heap.size, 0, none⟩ = some (.slice a1 n1 c1) ∧ u7.cell? ⟨w.heap.size, 1, none⟩ = some (.slice a2 n2 c2) ∧ u7.cell? ⟨w.heap.size, 2, none⟩ = some (.int .i64 pd) ∧ u7.cell? ⟨w.heap.size, 3, none⟩ = some (.int .i64 pt) := by
          refine ⟨?_, ?_, ?_, ?_⟩ <;> refine kc hb ?_ <;> (go_simp; first | done | rfl)
      have hz := hb.size
      (try simp only [World.size_alloc, World.size_setCell, World.size_drew] at hz)
      have hlp' : w.heap.size < u7.heap.size := by omega
      have hB' : Below w.heap.size w u7 := by
          refine kb ?_ hb
          go_grown
      clear hp_0 hp_1 hp_2 hp_3 hx_0 hx_1 hx_2 hq_0 hq_1 hq_2 hq_3 hlp hlx hlq hnp0 hnp1 hkp1 hnp2 hkp2 hnx0 hkx1 hnq0 hnq1 hkq1 hnq2 hkq2 hB hsz
      clear hb hz
      obtain ⟨hp_0, hp_1, hp_2, hp_3⟩ := T
      have hlp := hlp'; clear hlp'
      have hnp0 : ¬ (w.heap.size = u7.heap.size) := by omega
      have hnp1 : ¬ (w.heap.size = u7.heap.size + 1) := by omega
      have hkp1 : w.heap.size < u7.heap.size + 1 := by omega
      have hnp2 : ¬ (w.heap.size = u7.heap.size + 1 + 1) := by omega
      have hkp2 : w.heap.size < u7.heap.size + 1 + 1 := by omega
      have hB := hB'; clear hB'
      have hsz := hB.size
      go_wp2
      go_ret
      exact ⟨rfl, hB⟩
    · subst h1
      clear h0
      go_wp2_with fail
      ((with_reducible refine (HA.out _ (by go_grown)).mono ?_); rintro _ u7 ⟨rfl, hb⟩)
      have T : u7.cell? ⟨w.heap.size, 0, none⟩ = some (.slice a1 n1 c1) ∧ u7.cell? ⟨w.heap.size, 1, none⟩ = some (.slice a2 n2 c2) ∧ u7.cell? ⟨w.heap.size, 2, none⟩ = some (.int .i64 pd) ∧ u7.cell? ⟨w.heap.size, 3, none⟩ = some (.int .i64 pt) := by
          refine ⟨?_, ?_, ?_, ?_⟩ <;> refine kc hb ?_ <;> (go_simp; first | done | rfl)
      have hz := hb.size
      (try simp only [World.size_alloc, World.size_setCell, World.size_drew] at hz)
      have hlp' : w.heap.size < u7.heap.size := by omega
      have hB' : Below w.heap.size w u7 := by
          refine kb ?_ hb
          go_grown
      clear hp_0 hp_1 hp_2 hp_3 hx_0 hx_1 hx_2 hq_0 hq_1 hq_2 hq_3 hlp hlx hlq hnp0 hnp1 hkp1 hnp2 hkp2 hnx0 hkx1 hnq0 hnq1 hkq1 hnq2 hkq2 hB hsz
      clear hb hz
      obtain ⟨hp_0, hp_1, hp_2, hp_3⟩ := T
      have hlp := hlp'; clear hlp'
      have hnp0 : ¬ (w.heap.size = u7.heap.size) := by omega
      have hnp1 : ¬ (w.heap.size = u7.heap.size + 1) := by omega
      have hkp1 : w.heap.size < u7.heap.size + 1 := by omega
      have hnp2 : ¬ (w.heap.size = u7.heap.size + 1 + 1) := by omega
      have hkp2 : w.heap.size < u7.heap.size + 1 + 1 := by omega
      have hB := hB'; clear hB'
      have hsz := hB.size
      go_wp2
      go_ret
      exact ⟨rfl, hB⟩
    · subst h1
      clear h0
      go_wp2_with fail
      ((with_reducible refine (HA.out _ (by go_grown)).mono ?_); rintro _ u7 ⟨rfl, hb⟩)
      have T : u7.cell? ⟨w.heap.size, 0, none⟩ = some (.slice a1 n1 c1) ∧ u7.cell? ⟨w.heap.size, 1, none⟩ = some (.slice a2 n2 c2) ∧ u7.cell? ⟨w.heap.size, 2, none⟩ = some (.int .i64 pd) ∧ u7.cell? ⟨w.heap.size, 3, none⟩ = some (.int .i64 pt) := by
          refine ⟨?_, ?_, ?_, ?_⟩ <;> refine kc hb ?_ <;> (go_simp; first | done | rfl)
      have hz := hb.size
      (try simp only [World.size_alloc, World.size_setCell, World.size_drew] at hz)
      have hlp' : w.heap.size < u7.heap.size := by omega
      have hB' : Below w.heap.size w u7 := by
          refine kb ?_ hb
          go_grown
      clear hp_0 hp_1 hp_2 hp_3 hx_0 hx_1 hx_2 hq_0 hq_1 hq_2 hq_3 hlp hlx hlq hnp0 hnp1 hkp1 hnp2 hkp2 hnx0 hkx1 hnq0 hnq1 hkq1 hnq2 hkq2 hB hsz
      clear hb hz
      obtain ⟨hp_0, hp_1, hp_2, hp_3⟩ := T
      have hlp := hlp'; clear hlp'
      have hnp0 : ¬ (w.heap.size = u7.heap.size) := by omega
      have hnp1 : ¬ (w.heap.size = u7.heap.size + 1) := by omega
      have hkp1 : w.heap.size < u7.heap.size + 1 := by omega
      have hnp2 : ¬ (w.heap.size = u7.heap.size + 1 + 1) := by omega
      have hkp2 : w.heap.size < u7.heap.size + 1 + 1 := by omega
      have hB := hB'; clear hB'
      have hsz := hB.size
      go_wp2
      go_ret
      exact ⟨rfl, hB⟩
    · subst h1
      clear h0
      go_wp2_with fail
      ((with_reducible refine (HA.out _ (by go_grown)).mono ?_); rintro _ u7 ⟨rfl, hb⟩)
      have T : u7.cell? ⟨w.heap.size, 0, none⟩ = some (.slice a1 n1 c1) ∧ u7.cell? ⟨w.heap.size, 1, none⟩ = some (.slice a2 n2 c2) ∧ u7.cell? ⟨w.heap.size, 2, none⟩ = some (.int .i64 pd) ∧ u7.cell? ⟨w.heap.size, 3, none⟩ = some (.int .i64 pt) := by
          refine ⟨?_, ?_, ?_, ?_⟩ <;> refine kc hb ?_ <;> (go_simp; first | done | rfl)
      have hz := hb.size
      (try simp only [World.size_alloc, World.size_setCell, World.size_drew] at hz)
      have hlp' : w.heap.size < u7.heap.size := by omega
      have hB' : Below w.heap.size w u7 := by
          refine kb ?_ hb
          go_grown
      clear hp_0 hp_1 hp_2 hp_3 hx_0 hx_1 hx_2 hq_0 hq_1 hq_2 hq_3 hlp hlx hlq hnp0 hnp1 hkp1 hnp2 hkp2 hnx0 hkx1 hnq0 hnq1 hkq1 hnq2 hkq2 hB hsz
      clear hb hz
      obtain ⟨hp_0, hp_1, hp_2, hp_3⟩ := T
      have hlp := hlp'; clear hlp'
      have hnp0 : ¬ (w.heap.size = u7.heap.size) := by omega
      have hnp1 : ¬ (w.heap.size = u7.heap.size + 1) := by omega
      have hkp1 : w.heap.size < u7.heap.size + 1 := by omega
      have hnp2 : ¬ (w.heap.size = u7.heap.size + 1 + 1) := by omega
      have hkp2 : w.heap.size < u7.heap.size + 1 + 1 := by omega
      have hB := hB'; clear hB'
      have hsz := hB.size
      go_wp2
      go_ret
      exact ⟨rfl, hB⟩
  · obtain rfl : E = 0 := Classical.byContradiction h0
    clear h0
    have HQ6 := Lib.hid (fun W (hb : Below u6.heap.size u6 W) => HQQ.out W (hs_u6.out.trans (hb.mono hs_u6.out.size)))
    obtain ⟨L2, hpr, hback⟩ := one_facts HEQ.out HBq.out
    have HPr := Lib.hid (fun v W hv (hb : Below w.heap.size w W) => (show Calls Tryd.prog 8 #[v] W (fun e w' => e = .returned (.tuple #[.string (txB L2), .int .i64 0]) ∧ Below W.heap.size W w') from by have h := HPq.out v W hv hb; rw [hpr] at h; exact h))
    have HS2 := Lib.hid (fun W => parse_c L2 W)
    rw [hback, ← HQ.out] at HS2
    unfold ParseEnd sortP at HS2
    dsimp only at HS2
    have HIn := Lib.hid (sortS_mem' (l := LS ++ [⟨xf, xt, xb⟩]) (x := ⟨xf, xt, xb⟩) (by simp))
    have HLr := Lib.hid (And.intro (sortS_len LS) (sortS_len LK))
    have HLx := Lib.hid (sortS_len (LS ++ [⟨xf, xt, xb⟩]))
    generalize sortS (LS ++ [⟨xf, xt, xb⟩]) = RX at HS2 HIn HLx
    generalize sortS LK = RO at HS2 HLr
    generalize txB L2 = T2 at HPr HS2
    clear hpr hback HPq HQQ hs_u6
    have hN1 : RX.length = n1 + 1 := by rw [HLx.out, HN6.out]
    have hN2 : RO.length = n2 := by have h1 := HLr.out; have h2 := HL.out; omega
    have HNN := Lib.hid (And.intro hN1 hN2)
    clear hN1 hN2
    go_wp2_with fail
    ((with_reducible refine (HPr.out _ _ (HQ6.out _ (Below.refl _ _)) (by go_grown)).mono ?_); rintro _ u7 ⟨rfl, hb⟩)
    have T : u7.cell? ⟨w.heap.size, 0, none⟩ = some (.slice a1 n1 c1) ∧ u7.cell? ⟨w.heap.size, 1, none⟩ = some (.slice a2 n2 c2) ∧ u7.cell? ⟨w.heap.size, 2, none⟩ = some (.int .i64 pd) ∧ u7.cell? ⟨w.heap.size, 3, none⟩ = some (.int .i64 pt) ∧ u7.cell? ⟨w.heap.size + 1, 0, none⟩ = some (.int .i64 xf) ∧ u7.cell? ⟨w.heap.size + 1, 1, none⟩ = some (.int .i64 xt) ∧ u7.cell? ⟨w.heap.size + 1, 2, none⟩ = some (.int .u8 xb) := by
        refine ⟨?_, ?_, ?_, ?_, ?_, ?_, ?_⟩ <;> refine kc hb ?_ <;> (go_simp; first | done | rfl)
    have hz := hb.size
    (try simp only [World.size_alloc, World.size_setCell, World.size_drew] at hz)
    have hlp' : w.heap.size < u7.heap.size := by omega
    have hlx' : w.heap.size + 1 < u7.heap.size := by omega
    have hB' : Below w.heap.size w u7 := by
        refine kb ?_ hb
        go_grown
    clear hp_0 hp_1 hp_2 hp_3 hlp hnp0 hnp1 hkp1 hnp2 hkp2 hB hsz
    clear hb hz
    obtain ⟨hp_0, hp_1, hp_2, hp_3, hx_0, hx_1, hx_2⟩ := T
    have hlp := hlp'; clear hlp'
    have hlx := hlx'; clear hlx'
    have hnp0 : ¬ (w.heap.size = u7.heap.size) := by omega
    have hnp1 : ¬ (w.heap.size = u7.heap.size + 1) := by omega
    have hkp1 : w.heap.size < u7.heap.size + 1 := by omega
    have hnp2 : ¬ (w.heap.size = u7.heap.size + 1 + 1) := by omega
    have hkp2 : w.heap.size < u7.heap.size + 1 + 1 := by omega
    have hnx0 : ¬ (w.heap.size + 1 = u7.heap.size) := by omega
    have hkx1 : w.heap.size < u7.heap.size := by omega
    have hB := hB'; clear hB'
    have hsz := hB.size
    go_wp2_with fail
    ((with_reducible refine (HS2.out _).mono ?_); rintro _ u8 ⟨v7, v8, rfl, h7, h8, _, _, hb⟩)
    have hs_u8 := Lib.hid hb
    have T : u8.cell? ⟨w.heap.size, 0, none⟩ = some (.slice a1 n1 c1) ∧ u8.cell? ⟨w.heap.size, 1, none⟩ = some (.slice a2 n2 c2) ∧ u8.cell? ⟨w.heap.size, 2, none⟩ = some (.int .i64 pd) ∧ u8.cell? ⟨w.heap.size, 3, none⟩ = some (.int .i64 pt) ∧ u8.cell? ⟨w.heap.size + 1, 0, none⟩ = some (.int .i64 xf) ∧ u8.cell? ⟨w.heap.size + 1, 1, none⟩ = some (.int .i64 xt) ∧ u8.cell? ⟨w.heap.size + 1, 2, none⟩ = some (.int .u8 xb) := by
        refine ⟨?_, ?_, ?_, ?_, ?_, ?_, ?_⟩ <;> refine kc hb ?_ <;> (go_simp; first | done | rfl)
    have hz := hb.size
    (try simp only [World.size_alloc, World.size_setCell, World.size_drew] at hz)
    have hlp' : w.heap.size < u8.heap.size := by omega
    have hlx' : w.heap.size + 1 < u8.heap.size := by omega
    have hB' : Below w.heap.size w u8 := by
        refine kb ?_ hb
        go_grown
    clear hp_0 hp_1 hp_2 hp_3 hx_0 hx_1 hx_2 hlp hlx hnp0 hnp1 hkp1 hnp2 hkp2 hnx0 hkx1 hB hsz
    clear hb hz
    obtain ⟨hp_0, hp_1, hp_2, hp_3, hx_0, hx_1, hx_2⟩ := T
    have hlp := hlp'; clear hlp'
    have hlx := hlx'; clear hlx'
    have hnp0 : ¬ (w.heap.size = u8.heap.size) := by omega
    have hnp1 : ¬ (w.heap.size = u8.heap.size + 1) := by omega
    have hkp1 : w.heap.size < u8.heap.size + 1 := by omega
    have hnp2 : ¬ (w.heap.size = u8.heap.size + 1 + 1) := by omega
    have hkp2 : w.heap.size < u8.heap.size + 1 + 1 := by omega
    have hnx0 : ¬ (w.heap.size + 1 = u8.heap.size) := by omega
    have hkx1 : w.heap.size < u8.heap.size := by omega
    have hB := hB'; clear hB'
    have hsz := hB.size
    obtain ⟨p7, c7, rfl⟩ := h7.form
    obtain ⟨p8, c8, rfl⟩ := h8.form
    rw [HNN.out.1] at h7 ⊢
    rw [HNN.out.2] at h8 ⊢
    have HX := Lib.hid h7
    clear h7 h8
    have HB0 := Lib.hid hB
    have HA2 := Lib.hid (fun W (hb : Below u8.heap.size u8 W) => HA.out W (HB0.out.trans (hb.mono HB0.out.size)))
    have hyy : Below u8.heap.size u8 u8 := Below.refl _ _
    go_wp2
    refine wp_pin (fun w' => w'.cell? ⟨w.heap.size, 0, none⟩ = some (.slice a1 n1 c1) ∧ w'.cell? ⟨w.heap.size, 1, none⟩ = some (.slice a2 n2 c2) ∧ w'.cell? ⟨w.heap.size, 2, none⟩ = some (.int .i64 pd) ∧ w'.cell? ⟨w.heap.size, 3, none⟩ = some (.int .i64 pt) ∧ w'.cell? ⟨w.heap.size + 1, 0, none⟩ = some (.int .i64 xf) ∧ w'.cell? ⟨w.heap.size + 1, 1, none⟩ = some (.int .i64 xt) ∧ w'.cell? ⟨w.heap.size + 1, 2, none⟩ = some (.int .u8 xb) ∧ w'.cell? ⟨u8.heap.size, 0, none⟩ = some (.slice p7 (n1 + 1) c7) ∧ w'.cell? ⟨u8.heap.size, 1, none⟩ = some (.slice p8 n2 c8) ∧ w'.cell? ⟨u8.heap.size, 2, none⟩ = some (.int .i64 pd) ∧ w'.cell? ⟨u8.heap.size, 3, none⟩ = some (.int .i64 pt) ∧ Below u8.heap.size u8 w') ?_ ?_
    · (try dsimp only)
      refine ⟨?_, ?_, ?_, ?_, ?_, ?_, ?_, ?_, ?_, ?_, ?_, ?_⟩ <;> first | (go_simp; done) | (simp [*]; done) | go_grown
    intro u9 T
    (try dsimp only at T)
    clear hp_0 hp_1 hp_2 hp_3 hx_0 hx_1 hx_2 hlp hlx hnp0 hnp1 hkp1 hnp2 hkp2 hnx0 hkx1 hB hsz
    obtain ⟨hp_0, hp_1, hp_2, hp_3, hx_0, hx_1, hx_2, hr_0, hr_1, hr_2, hr_3, hB⟩ := T
    have hsz := hB.size
    have hlp := klt hp_0
    have hlx := klt hx_0
    have hlr := klt hr_0
    have hnp0 : ¬ (w.heap.size = u9.heap.size) := by omega
    have hnp1 : ¬ (w.heap.size = u9.heap.size + 1) := by omega
    have hkp1 : w.heap.size < u9.heap.size + 1 := by omega
    have hnp2 : ¬ (w.heap.size = u9.heap.size + 1 + 1) := by omega
    have hkp2 : w.heap.size < u9.heap.size + 1 + 1 := by omega
    have hnx0 : ¬ (w.heap.size + 1 = u9.heap.size) := by omega
    have hkx1 : w.heap.size < u9.heap.size := by omega
    have hnr0 : ¬ (u8.heap.size = u9.heap.size) := by omega
    have hnr1 : ¬ (u8.heap.size = u9.heap.size + 1) := by omega
    have hkr1 : u8.heap.size < u9.heap.size + 1 := by omega
    have hnr2 : ¬ (u8.heap.size = u9.heap.size + 1 + 1) := by omega
    have hkr2 : u8.heap.size < u9.heap.size + 1 + 1 := by omega
    have HB9 := Lib.hid hB
    have HA3 := Lib.hid (fun W (hb : Below u9.heap.size u9 W) => HA2.out W (HB9.out.trans (hb.mono HB9.out.size)))
    have HX9 := Lib.hid (HoldsE.below HX.out hB)
    have hyy9 : Below u9.heap.size u9 u9 := Below.refl _ _
    have HF9 := Lib.hid (And.intro hp_0 (And.intro hp_1 (And.intro hp_2 (And.intro hp_3 (And.intro hx_0 (And.intro hx_1 (And.intro hx_2 (And.intro hr_0 (And.intro hr_1 (And.intro hr_2 (And.intro hr_3 hyy9)))))))))))
    go_loopg [16, 17] (n1 + 1) (fun kx s16 s17 wr => ∃ k : Nat, s17 = .int .i64 (k : Int) ∧ s16 = .bool (isIn ⟨xf, xt, xb⟩ RX k) ∧ k ≤ n1 + 1 ∧ n1 + 1 - k ≤ kx ∧ Below u9.heap.size u9 wr)
    case atStart => exact ⟨0, by go_num, rfl, by omega, by omega, Below.refl _ _⟩
    case round =>
      obtain ⟨k, rfl, rfl, hk, hkx, hb9⟩ := hrel
      obtain ⟨hp_0, hp_1, hp_2, hp_3, hx_0, hx_1, hx_2, hr_0, hr_1, hr_2, hr_3, hB⟩ := HF9.out
      have HC9 := And.intro (kc hb9 hp_0) (And.intro (kc hb9 hp_1) (And.intro (kc hb9 hp_2) (And.intro (kc hb9 hp_3) (And.intro (kc hb9 hx_0) (And.intro (kc hb9 hx_1) (And.intro (kc hb9 hx_2) (And.intro (kc hb9 hr_0) (And.intro (kc hb9 hr_1) (And.intro (kc hb9 hr_2) (And.intro (kc hb9 hr_3) (hb9)))))))))))
      have HK := Lib.hid hb9
      clear hb9
      clear hp_0 hp_1 hp_2 hp_3 hx_0 hx_1 hx_2 hr_0 hr_1 hr_2 hr_3 hB
      obtain ⟨hp_0, hp_1, hp_2, hp_3, hx_0, hx_1, hx_2, hr_0, hr_1, hr_2, hr_3, hB⟩ := HC9
      have hsz := hB.size
      have hlp := klt hp_0
      have hlx := klt hx_0
      have hlr := klt hr_0
      have hnp0 : ¬ (w.heap.size = wr.heap.size) := by omega
      have hnp1 : ¬ (w.heap.size = wr.heap.size + 1) := by omega
      have hkp1 : w.heap.size < wr.heap.size + 1 := by omega
      have hnp2 : ¬ (w.heap.size = wr.heap.size + 1 + 1) := by omega
      have hkp2 : w.heap.size < wr.heap.size + 1 + 1 := by omega
      have hnx0 : ¬ (w.heap.size + 1 = wr.heap.size) := by omega
      have hkx1 : w.heap.size < wr.heap.size := by omega
      have hnr0 : ¬ (u8.heap.size = wr.heap.size) := by omega
      have hnr1 : ¬ (u8.heap.size = wr.heap.size + 1) := by omega
      have hkr1 : u8.heap.size < wr.heap.size + 1 := by omega
      have hnr2 : ¬ (u8.heap.size = wr.heap.size + 1 + 1) := by omega
      have hkr2 : u8.heap.size < wr.heap.size + 1 + 1 := by omega
      have hn12 : n1 + n2 ≤ 64 := HL.out.2.2
      by_cases hlt : k < n1 + 1
      · have hk1 : k < RX.length := by rw [HNN.out.1]; exact hlt
        have hst := isIn_step (x := ⟨xf, xt, xb⟩) hk1
        have HXo := HX9.out
        obtain ⟨g8, o8, d8, e8, _, cc⟩ := HXo.some (by rw [HNN.out.1]; omega)
        obtain ⟨rfl, nn, rfl⟩ := Value.slice.inj e8
        clear e8 nn HXo
        obtain ⟨y0, y1, y2⟩ := get3 cc (List.getElem?_eq_getElem hk1)
        have HS := Lib.hid hst
        clear cc hst
        generalize RX[k] = y at *
        clear hk1
        obtain ⟨yf, yt, yb⟩ := y
        dsimp only at y0 y1 y2
        have q := sp_eql yf yt yb xf xt xb
        have y0 := kc hB y0
        have y1 := kc hB y1
        have y2 := kc hB y2
        obtain ⟨B, hBB⟩ : ∃ B, isIn ⟨xf, xt, xb⟩ RX k = B := ⟨_, rfl⟩
        rw [hBB] at HS ⊢
        clear hBB
        cases B
        · go_wp2_with fail
          refine wp_region_plan (fun w' => w'.cell? ⟨w.heap.size + 1, 0, none⟩ = some (.int .i64 xf) ∧ w'.cell? ⟨w.heap.size + 1, 1, none⟩ = some (.int .i64 xt) ∧ w'.cell? ⟨w.heap.size + 1, 2, none⟩ = some (.int .u8 xb) ∧ w'.cell? ⟨g8, o8 + k * 3, none⟩ = some (.int .i64 yf) ∧ w'.cell? ⟨g8, o8 + k * 3 + 1, none⟩ = some (.int .i64 yt) ∧ w'.cell? ⟨g8, o8 + k * 3 + 2, none⟩ = some (.int .u8 yb) ∧ Below u9.heap.size u9 w') (by kernel_rfl) (by kernel_rfl) (by kernel_rfl) ?_ ?_
          · (try dsimp only)
            refine ⟨?_, ?_, ?_, ?_, ?_, ?_, ?_⟩ <;> first | (go_simp; done) | (simp [*]; done) | go_grown
          repeat (first
            | (refine Plan.val (v := ?_) ?_ ?_ ?_; rotate_left; (· rfl); (· (intro W hSw; (try dsimp only at hSw); go_simp; all_goals (first | (with_reducible rfl) | (constructor <;> (with_reducible rfl)) | (rw [if_neg (by omega)]; done) | (rw [if_neg (by omega)]; with_reducible rfl)))); (try simp only [Act.put, List.setIfInBounds_toArray, List.set_cons_zero, List.set_cons_succ]))
            | (refine Plan.no ?_ ?_; (· rfl); (try simp only [Act.put, List.setIfInBounds_toArray, List.set_cons_zero, List.set_cons_succ])))
          refine Plan.done ?_
          intro u10 T
          (try dsimp only at T)
          clear hp_0 hp_1 hp_2 hp_3 hx_0 hx_1 hx_2 hr_0 hr_1 hr_2 hr_3 hB hsz hlp hlx hlr hnp0 hnp1 hkp1 hnp2 hkp2 hnx0 hkx1 hnr0 hnr1 hkr1 hnr2 hkr2
          obtain ⟨hx_0, hx_1, hx_2, hy_0, hy_1, hy_2, hB⟩ := T
          have hsz := hB.size
          have hlx := klt hx_0
          have hly := klt hy_0
          have hnx0 : ¬ (w.heap.size + 1 = u10.heap.size) := by omega
          have hnx1 : ¬ (w.heap.size = u10.heap.size) := by omega
          have hkx1 : w.heap.size < u10.heap.size := by omega
          have hnx2 : ¬ (w.heap.size = u10.heap.size + 1) := by omega
          have hkx2 : w.heap.size < u10.heap.size + 1 := by omega
          have hny0 : ¬ (g8 = u10.heap.size) := by omega
          have hny1 : ¬ (g8 = u10.heap.size + 1) := by omega
          have hky1 : g8 < u10.heap.size + 1 := by omega
          have hny2 : ¬ (g8 = u10.heap.size + 1 + 1) := by omega
          have hky2 : g8 < u10.heap.size + 1 + 1 := by omega
          have hval : (decide (yf = xf) && (decide (yt = xt) && decide (yb = xb))) = isIn ⟨xf, xt, xb⟩ RX (k + 1) := by rw [HS.out]; simp only [Bool.false_or, Sp.mk.injEq, Bool.decide_and]
          rw [hval]
          clear hval q
          go_wp2
          go_roundg (n1 + 1 - (k + 1))
          case measure => omega
          case rel => exact ⟨k + 1, by go_num, rfl, by omega, by omega, hB⟩
        · go_wp2_with fail
          refine wp_region_plan (fun w' => w'.cell? ⟨w.heap.size + 1, 0, none⟩ = some (.int .i64 xf) ∧ w'.cell? ⟨w.heap.size + 1, 1, none⟩ = some (.int .i64 xt) ∧ w'.cell? ⟨w.heap.size + 1, 2, none⟩ = some (.int .u8 xb) ∧ Below u9.heap.size u9 w') (by kernel_rfl) (by kernel_rfl) (by kernel_rfl) ?_ ?_
          · (try dsimp only)
            refine ⟨?_, ?_, ?_, ?_⟩ <;> first | (go_simp; done) | (simp [*]; done) | go_grown
          repeat (first
            | (refine Plan.val (v := ?_) ?_ ?_ ?_; rotate_left; (· rfl); (· (intro W hSw; (try dsimp only at hSw); go_simp; all_goals (first | (with_reducible rfl) | (constructor <;> (with_reducible rfl)) | (rw [if_neg (by omega)]; done) | (rw [if_neg (by omega)]; with_reducible rfl)))); (try simp only [Act.put, List.setIfInBounds_toArray, List.set_cons_zero, List.set_cons_succ]))
            | (refine Plan.no ?_ ?_; (· rfl); (try simp only [Act.put, List.setIfInBounds_toArray, List.set_cons_zero, List.set_cons_succ])))
          refine Plan.done ?_
          intro u10 T
          (try dsimp only at T)
          clear hp_0 hp_1 hp_2 hp_3 hx_0 hx_1 hx_2 hr_0 hr_1 hr_2 hr_3 hB hsz hlp hlx hlr hnp0 hnp1 hkp1 hnp2 hkp2 hnx0 hkx1 hnr0 hnr1 hkr1 hnr2 hkr2
          obtain ⟨hx_0, hx_1, hx_2, hB⟩ := T
          have hsz := hB.size
          have hlx := klt hx_0
          have hnx0 : ¬ (w.heap.size + 1 = u10.heap.size) := by omega
          have hnx1 : ¬ (w.heap.size = u10.heap.size) := by omega
          have hkx1 : w.heap.size < u10.heap.size := by omega
          have hnx2 : ¬ (w.heap.size = u10.heap.size + 1) := by omega
          have hkx2 : w.heap.size < u10.heap.size + 1 := by omega
          have HVl := Lib.hid (show true = isIn ⟨xf, xt, xb⟩ RX (k + 1) from by rw [HS.out]; rfl)
          clear q
          go_wp2
          go_roundg (n1 + 1 - (k + 1))
          case measure => omega
          case rel => exact ⟨k + 1, by go_num, congrArg Value.bool HVl.out, by omega, by omega, hB⟩
      · obtain rfl : k = n1 + 1 := by omega
        have hall : isIn ⟨xf, xt, xb⟩ RX (n1 + 1) = true := isIn_all (by rw [HNN.out.1]; exact Nat.le_refl _) HIn.out
        rw [hall]
        go_wp2_with fail
        ((with_reducible refine (HA3.out _ (by go_grown)).mono ?_); rintro _ u11 ⟨rfl, hb⟩)
        have T : u11.cell? ⟨w.heap.size, 0, none⟩ = some (.slice a1 n1 c1) ∧ u11.cell? ⟨w.heap.size, 1, none⟩ = some (.slice a2 n2 c2) ∧ u11.cell? ⟨w.heap.size, 2, none⟩ = some (.int .i64 pd) ∧ u11.cell? ⟨w.heap.size, 3, none⟩ = some (.int .i64 pt) ∧ u11.cell? ⟨w.heap.size + 1, 0, none⟩ = some (.int .i64 xf) ∧ u11.cell? ⟨w.heap.size + 1, 1, none⟩ = some (.int .i64 xt) ∧ u11.cell? ⟨w.heap.size + 1, 2, none⟩ = some (.int .u8 xb) ∧ u11.cell? ⟨u8.heap.size, 0, none⟩ = some (.slice p7 (n1 + 1) c7) ∧ u11.cell? ⟨u8.heap.size, 1, none⟩ = some (.slice p8 n2 c8) ∧ u11.cell? ⟨u8.heap.size, 2, none⟩ = some (.int .i64 pd) ∧ u11.cell? ⟨u8.heap.size, 3, none⟩ = some (.int .i64 pt) := by
            refine ⟨?_, ?_, ?_, ?_, ?_, ?_, ?_, ?_, ?_, ?_, ?_⟩ <;> refine kc hb ?_ <;> (go_simp; first | done | rfl)
        have hz := hb.size
        (try simp only [World.size_alloc, World.size_setCell, World.size_drew] at hz)
        have hlp' : w.heap.size < u11.heap.size := by omega
        have hlx' : w.heap.size + 1 < u11.heap.size := by omega
        have hlr' : u8.heap.size < u11.heap.size := by omega
        have hB' : Below u9.heap.size u9 u11 := by
            refine kb ?_ hb
            go_grown
        clear hp_0 hp_1 hp_2 hp_3 hx_0 hx_1 hx_2 hr_0 hr_1 hr_2 hr_3 hB hsz hlp hlx hlr hnp0 hnp1 hkp1 hnp2 hkp2 hnx0 hkx1 hnr0 hnr1 hkr1 hnr2 hkr2
        clear hb hz
        obtain ⟨hp_0, hp_1, hp_2, hp_3, hx_0, hx_1, hx_2, hr_0, hr_1, hr_2, hr_3⟩ := T
        have hlp := hlp'; clear hlp'
        have hlx := hlx'; clear hlx'
        have hlr := hlr'; clear hlr'
        have hnp0 : ¬ (w.heap.size = u11.heap.size) := by omega
        have hnp1 : ¬ (w.heap.size = u11.heap.size + 1) := by omega
        have hkp1 : w.heap.size < u11.heap.size + 1 := by omega
        have hnp2 : ¬ (w.heap.size = u11.heap.size + 1 + 1) := by omega
        have hkp2 : w.heap.size < u11.heap.size + 1 + 1 := by omega
        have hnx0 : ¬ (w.heap.size + 1 = u11.heap.size) := by omega
        have hkx1 : w.heap.size < u11.heap.size := by omega
        have hnr0 : ¬ (u8.heap.size = u11.heap.size) := by omega
        have hnr1 : ¬ (u8.heap.size = u11.heap.size + 1) := by omega
        have hkr1 : u8.heap.size < u11.heap.size + 1 := by omega
        have hnr2 : ¬ (u8.heap.size = u11.heap.size + 1 + 1) := by omega
        have hkr2 : u8.heap.size < u11.heap.size + 1 + 1 := by omega
        have hB := hB'; clear hB'
        have hsz := hB.size
        go_wp2
        go_ret
        exact ⟨rfl, HB0.out.trans ((HB9.out.trans (hB.mono HB9.out.size)).mono HB0.out.size)⟩
theorem one_walk (P : Pol) (hb8 : Bits P) (v : Value) (x : Sp) (hx8 : 0 ≤ x.b ∧ x.b ≤ 255) (b : Bool) (w : World) (hv : HoldsP w v P) (hT : w.cell? ⟨5, 15, none⟩ = some (.int .u8 4)) : Calls Tryd.prog 5 #[v, .agg x.cells.toArray, .bool b] w (LawEnd w) := by
  by_cases h1 : P.s.length ≤ 80
  · by_cases h2 : P.k.length ≤ 80
    · by_cases hE : checkM P = 0
      · cases b
        · exact one_ok_false P hb8 v x hx8 w hv hT ⟨h1, h2⟩ hE
        · exact one_ok_true P hb8 v x hx8 w hv hT ⟨h1, h2⟩ hE
      · exact one_bad P v x b w hv hT ⟨h1, h2⟩ hE
    · exact one_few P v x b w hv hT (by rw [decide_eq_true h1, decide_eq_false h2]; rfl)
  · exact one_few P v x b w hv hT (by rw [decide_eq_false h1]; rfl)
end Go.Proofs.YtjcmblbnbpikfaaDoor
