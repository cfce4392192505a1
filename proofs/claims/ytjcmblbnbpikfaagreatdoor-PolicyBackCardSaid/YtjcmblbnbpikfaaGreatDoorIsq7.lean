/-
  Layer 7's laws: Is, where it is.
-/
import Derived.Test.YtjcmblbnbpikfaaGreatDoorSpans7
set_option linter.unusedSimpArgs false
set_option linter.unusedVariables false
namespace Go.Proofs.YtjcmblbnbpikfaaGreatDoor
open Go.RowKit Go.PlainAid

theorem spans_true (l : List Sp) (hl : l.length ≤ 100000) (v1 v2 : Value) (w : World) (h1 : HoldsD w v1 l) (h2 : HoldsD w v2 l) :
    Calls Tryz.prog 14 #[v1, v2] w fun e w' => e = .returned (.bool true) ∧ Below w.heap.size w w' := by
  have h := spans_c l l ⟨hl, hl⟩ v1 v2 w h1 h2
  rw [decide_eq_true rfl] at h
  exact h
set_option maxRecDepth 100000 in
set_option maxHeartbeats 2000000 in
theorem is_c (P : Pol) (hl : P.s.length ≤ 1000 ∧ P.k.length ≤ 1000) (hb8 : Bits P) (v q : Value) (w : World) (hv : HoldsP w v P) (hq : HoldsQ w q P) : Calls Tryz.prog 15 #[v, q] w fun e w' => e = .returned (.bool true) ∧ Below w.heap.size w w' := by
  have HPl := Lib.hid (fun W (hb : Below w.heap.size w W) => Plain7_c P hl hb8 v W (hv.below hb))
  have HS1 := Lib.hid (fun v1 v2 W h1 h2 => spans_true P.s (by omega) v1 v2 W h1 h2)
  have HS2 := Lib.hid (fun v1 v2 W h1 h2 => spans_true P.k (by omega) v1 v2 W h1 h2)
  obtain ⟨v1, v2, rfl, h1, h2⟩ := hv
  obtain ⟨a1, c1, rfl⟩ := h1.form
  obtain ⟨a2, c2, rfl⟩ := h2.form
  obtain ⟨v3, v4, rfl, h3, h4⟩ := hq
  obtain ⟨a3, c3, rfl⟩ := h3.form
  obtain ⟨a4, c4, rfl⟩ := h4.form
  obtain ⟨ps, pk, pd, pt⟩ := P
  dsimp only at *
  have HQ := Lib.hid (fun W (hb : Below w.heap.size w W) => And.intro (h3.below hb) (h4.below hb))
  obtain ⟨n1, hn1⟩ : ∃ n, ps.length = n := ⟨_, rfl⟩
  obtain ⟨n2, hn2⟩ : ∃ n, pk.length = n := ⟨_, rfl⟩
  rw [hn1, hn2] at HPl HQ ⊢
  have HNN := Lib.hid (And.intro hn1 hn2)
  clear h1 h2 h3 h4 hn1 hn2 hl hb8
  go_enter Tryz.func15, Tryz.ntmps15
  go_wp2_with fail
  ((with_reducible refine (HPl.out _ (by go_grown)).mono ?_); rintro _ u1 ⟨_, rfl, ⟨v5, v6, rfl, h5, h6⟩, hb⟩)
  have hs_u1 := Lib.hid hb
  have T : u1.cell? ⟨w.heap.size, 0, none⟩ = some (.slice a1 n1 c1) ∧ u1.cell? ⟨w.heap.size, 1, none⟩ = some (.slice a2 n2 c2) ∧ u1.cell? ⟨w.heap.size, 2, none⟩ = some (.int .i64 pd) ∧ u1.cell? ⟨w.heap.size, 3, none⟩ = some (.int .i64 pt) ∧ u1.cell? ⟨w.heap.size + 1, 0, none⟩ = some (.slice a3 n1 c3) ∧ u1.cell? ⟨w.heap.size + 1, 1, none⟩ = some (.slice a4 n2 c4) ∧ u1.cell? ⟨w.heap.size + 1, 2, none⟩ = some (.int .i64 pd) ∧ u1.cell? ⟨w.heap.size + 1, 3, none⟩ = some (.int .i64 pt) := by
      refine ⟨?_, ?_, ?_, ?_, ?_, ?_, ?_, ?_⟩ <;> refine kc hb ?_ <;> (go_simp; first | done | rfl)
  have hz := hb.size
  (try simp only [World.size_alloc, World.size_setCell, World.size_drew] at hz)
  have hlp' : w.heap.size < u1.heap.size := by omega
  have hlq' : w.heap.size + 1 < u1.heap.size := by omega
  have hB' : Below w.heap.size w u1 := by
      refine kb ?_ hb
      go_grown
  clear hb hz
  obtain ⟨hp_0, hp_1, hp_2, hp_3, hq_0, hq_1, hq_2, hq_3⟩ := T
  have hlp := hlp'; clear hlp'
  have hlq := hlq'; clear hlq'
  have hnp0 : ¬ (w.heap.size = u1.heap.size) := by omega
  have hnp1 : ¬ (w.heap.size = u1.heap.size + 1) := by omega
  have hkp1 : w.heap.size < u1.heap.size + 1 := by omega
  have hnp2 : ¬ (w.heap.size = u1.heap.size + 1 + 1) := by omega
  have hkp2 : w.heap.size < u1.heap.size + 1 + 1 := by omega
  have hnq0 : ¬ (w.heap.size + 1 = u1.heap.size) := by omega
  have hkq1 : w.heap.size < u1.heap.size := by omega
  have hB := hB'; clear hB'
  have hsz := hB.size
  obtain ⟨a5, c5, rfl⟩ := h5.form
  obtain ⟨a6, c6, rfl⟩ := h6.form
  dsimp only at h5 h6
  rw [HNN.out.1] at h5 ⊢
  rw [HNN.out.2] at h6 ⊢
  have HQ1 := Lib.hid (fun W (hb : Below u1.heap.size u1 W) => HQ.out W (hB.trans (hb.mono hB.size)))
  have HR1 := Lib.hid (fun W (hb : Below u1.heap.size u1 W) => And.intro (h5.below hb) (h6.below hb))
  have HB0 := Lib.hid hB
  have hyy : Below u1.heap.size u1 u1 := Below.refl _ _
  clear h5 h6
  go_wp2_with fail
  ((with_reducible refine (HS1.out _ _ _ (HR1.out _ (by go_grown)).1 (HQ1.out _ (by go_grown)).1).mono ?_); rintro _ u2 ⟨rfl, hb⟩)
  have T : u2.cell? ⟨w.heap.size, 0, none⟩ = some (.slice a1 n1 c1) ∧ u2.cell? ⟨w.heap.size, 1, none⟩ = some (.slice a2 n2 c2) ∧ u2.cell? ⟨w.heap.size, 2, none⟩ = some (.int .i64 pd) ∧ u2.cell? ⟨w.heap.size, 3, none⟩ = some (.int .i64 pt) ∧ u2.cell? ⟨w.heap.size + 1, 0, none⟩ = some (.slice a3 n1 c3) ∧ u2.cell? ⟨w.heap.size + 1, 1, none⟩ = some (.slice a4 n2 c4) ∧ u2.cell? ⟨w.heap.size + 1, 2, none⟩ = some (.int .i64 pd) ∧ u2.cell? ⟨w.heap.size + 1, 3, none⟩ = some (.int .i64 pt) ∧ u2.cell? ⟨u1.heap.size, 0, none⟩ = some (.slice a5 n1 c5) ∧ u2.cell? ⟨u1.heap.size, 1, none⟩ = some (.slice a6 n2 c6) ∧ u2.cell? ⟨u1.heap.size, 2, none⟩ = some (.int .i64 pd) ∧ u2.cell? ⟨u1.heap.size, 3, none⟩ = some (.int .i64 pt) := by
      refine ⟨?_, ?_, ?_, ?_, ?_, ?_, ?_, ?_, ?_, ?_, ?_, ?_⟩ <;> refine kc hb ?_ <;> (go_simp; first | done | rfl)
  have hz := hb.size
  (try simp only [World.size_alloc, World.size_setCell, World.size_drew] at hz)
  have hlp' : w.heap.size < u2.heap.size := by omega
  have hlq' : w.heap.size + 1 < u2.heap.size := by omega
  have hlr' : u1.heap.size < u2.heap.size := by omega
  have hB' : Below u1.heap.size u1 u2 := by
      refine kb ?_ hb
      go_grown
  clear hp_0 hp_1 hp_2 hp_3 hq_0 hq_1 hq_2 hq_3 hlp hlq hnp0 hnp1 hkp1 hnp2 hkp2 hnq0 hkq1 hB hsz
  clear hb hz
  obtain ⟨hp_0, hp_1, hp_2, hp_3, hq_0, hq_1, hq_2, hq_3, hr_0, hr_1, hr_2, hr_3⟩ := T
  have hlp := hlp'; clear hlp'
  have hlq := hlq'; clear hlq'
  have hlr := hlr'; clear hlr'
  have hnp0 : ¬ (w.heap.size = u2.heap.size) := by omega
  have hnp1 : ¬ (w.heap.size = u2.heap.size + 1) := by omega
  have hkp1 : w.heap.size < u2.heap.size + 1 := by omega
  have hnp2 : ¬ (w.heap.size = u2.heap.size + 1 + 1) := by omega
  have hkp2 : w.heap.size < u2.heap.size + 1 + 1 := by omega
  have hnq0 : ¬ (w.heap.size + 1 = u2.heap.size) := by omega
  have hkq1 : w.heap.size < u2.heap.size := by omega
  have hnr0 : ¬ (u1.heap.size = u2.heap.size) := by omega
  have hnr1 : ¬ (u1.heap.size = u2.heap.size + 1) := by omega
  have hkr1 : u1.heap.size < u2.heap.size + 1 := by omega
  have hnr2 : ¬ (u1.heap.size = u2.heap.size + 1 + 1) := by omega
  have hkr2 : u1.heap.size < u2.heap.size + 1 + 1 := by omega
  have hB := hB'; clear hB'
  have hsz := hB.size
  go_wp2_with fail
  ((with_reducible refine (HS2.out _ _ _ (HR1.out _ (by go_grown)).2 (HQ1.out _ (by go_grown)).2).mono ?_); rintro _ u3 ⟨rfl, hb⟩)
  have T : u3.cell? ⟨w.heap.size, 0, none⟩ = some (.slice a1 n1 c1) ∧ u3.cell? ⟨w.heap.size, 1, none⟩ = some (.slice a2 n2 c2) ∧ u3.cell? ⟨w.heap.size, 2, none⟩ = some (.int .i64 pd) ∧ u3.cell? ⟨w.heap.size, 3, none⟩ = some (.int .i64 pt) ∧ u3.cell? ⟨w.heap.size + 1, 0, none⟩ = some (.slice a3 n1 c3) ∧ u3.cell? ⟨w.heap.size + 1, 1, none⟩ = some (.slice a4 n2 c4) ∧ u3.cell? ⟨w.heap.size + 1, 2, none⟩ = some (.int .i64 pd) ∧ u3.cell? ⟨w.heap.size + 1, 3, none⟩ = some (.int .i64 pt) ∧ u3.cell? ⟨u1.heap.size, 0, none⟩ = some (.slice a5 n1 c5) ∧ u3.cell? ⟨u1.heap.size, 1, none⟩ = some (.slice a6 n2 c6) ∧ u3.cell? ⟨u1.heap.size, 2, none⟩ = some (.int .i64 pd) ∧ u3.cell? ⟨u1.heap.size, 3, none⟩ = some (.int .i64 pt) := by
      refine ⟨?_, ?_, ?_, ?_, ?_, ?_, ?_, ?_, ?_, ?_, ?_, ?_⟩ <;> refine kc hb ?_ <;> (go_simp; first | done | rfl)
  have hz := hb.size
  (try simp only [World.size_alloc, World.size_setCell, World.size_drew] at hz)
  have hlp' : w.heap.size < u3.heap.size := by omega
  have hlq' : w.heap.size + 1 < u3.heap.size := by omega
  have hlr' : u1.heap.size < u3.heap.size := by omega
  have hB' : Below u1.heap.size u1 u3 := by
      refine kb ?_ hb
      go_grown
  clear hp_0 hp_1 hp_2 hp_3 hq_0 hq_1 hq_2 hq_3 hr_0 hr_1 hr_2 hr_3 hlp hlq hlr hnp0 hnp1 hkp1 hnp2 hkp2 hnq0 hkq1 hnr0 hnr1 hkr1 hnr2 hkr2 hB hsz
  clear hb hz
  obtain ⟨hp_0, hp_1, hp_2, hp_3, hq_0, hq_1, hq_2, hq_3, hr_0, hr_1, hr_2, hr_3⟩ := T
  have hlp := hlp'; clear hlp'
  have hlq := hlq'; clear hlq'
  have hlr := hlr'; clear hlr'
  have hnp0 : ¬ (w.heap.size = u3.heap.size) := by omega
  have hnp1 : ¬ (w.heap.size = u3.heap.size + 1) := by omega
  have hkp1 : w.heap.size < u3.heap.size + 1 := by omega
  have hnp2 : ¬ (w.heap.size = u3.heap.size + 1 + 1) := by omega
  have hkp2 : w.heap.size < u3.heap.size + 1 + 1 := by omega
  have hnq0 : ¬ (w.heap.size + 1 = u3.heap.size) := by omega
  have hkq1 : w.heap.size < u3.heap.size := by omega
  have hnr0 : ¬ (u1.heap.size = u3.heap.size) := by omega
  have hnr1 : ¬ (u1.heap.size = u3.heap.size + 1) := by omega
  have hkr1 : u1.heap.size < u3.heap.size + 1 := by omega
  have hnr2 : ¬ (u1.heap.size = u3.heap.size + 1 + 1) := by omega
  have hkr2 : u1.heap.size < u3.heap.size + 1 + 1 := by omega
  have hB := hB'; clear hB'
  have hsz := hB.size
  go_wp2
  go_ret
  exact ⟨rfl, HB0.out.trans (hB.mono HB0.out.size)⟩
end Go.Proofs.YtjcmblbnbpikfaaGreatDoor
