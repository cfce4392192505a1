/-
  TaintMoves returns true: the walk.
-/
import Derived.Test.YtbbiegbfoimcaaaRef6
import Derived.Test.YtbbiegbfoimcaaaAwake
set_option linter.unusedSimpArgs false
set_option linter.unusedVariables false
namespace Go.Proofs.Ytbbiegbfoimcaaa
open Go.RowKit

set_option maxRecDepth 100000 in
set_option maxHeartbeats 2000000 in
theorem moves_walk (x t : BitVec 8) (v s : Bool) (w : World) : Calls Try.prog 4 #[TB x t, TBit v s] w (LawEnd w) := by
  go_enter Try.func4, Try.ntmps4
  go_wp2_with fail
  ((with_reducible refine (left_c x t v s _).mono ?_); rintro _ w1 ⟨rfl, hb⟩)
  have T : w1.cell? ⟨w.heap.size, 0, none⟩ = some (B8 x) ∧ w1.cell? ⟨w.heap.size, 1, none⟩ = some (B8 t) ∧ w1.cell? ⟨w.heap.size + 1, 0, none⟩ = some (.bool v) ∧ w1.cell? ⟨w.heap.size + 1, 1, none⟩ = some (.bool s) := by
      refine ⟨?_, ?_, ?_, ?_⟩ <;> refine kc hb ?_ <;> (go_simp; first | done | rfl)
  have hz := hb.size
  (try simp only [World.size_alloc, World.size_setCell, World.size_drew] at hz)
  have hla' : w.heap.size < w1.heap.size := by omega
  have hlb' : w.heap.size + 1 < w1.heap.size := by omega
  have hB' : Below w.heap.size w w1 := by
      refine kb ?_ hb
      go_grown
  clear hb hz
  obtain ⟨ha_0, ha_1, hb_0, hb_1⟩ := T
  have hla := hla'; clear hla'
  have hlb := hlb'; clear hlb'
  have hna0 : ¬ (w.heap.size = w1.heap.size) := by omega
  have hna1 : ¬ (w.heap.size = w1.heap.size + 1) := by omega
  have hka1 : w.heap.size < w1.heap.size + 1 := by omega
  have hna2 : ¬ (w.heap.size = w1.heap.size + 1 + 1) := by omega
  have hka2 : w.heap.size < w1.heap.size + 1 + 1 := by omega
  have hnb0 : ¬ (w.heap.size + 1 = w1.heap.size) := by omega
  have hkb1 : w.heap.size < w1.heap.size := by omega
  have hB := hB'; clear hB'
  have hsz := hB.size
  go_wp2_with fail
  ((with_reducible refine (right_c x t v s _).mono ?_); rintro _ w2 ⟨rfl, hb⟩)
  have T : w2.cell? ⟨w.heap.size, 0, none⟩ = some (B8 x) ∧ w2.cell? ⟨w.heap.size, 1, none⟩ = some (B8 t) ∧ w2.cell? ⟨w.heap.size + 1, 0, none⟩ = some (.bool v) ∧ w2.cell? ⟨w.heap.size + 1, 1, none⟩ = some (.bool s) ∧ w2.cell? ⟨w1.heap.size, 0, none⟩ = some (B8 (setB (x <<< 1) 0 v)) ∧ w2.cell? ⟨w1.heap.size, 1, none⟩ = some (B8 (setB (t <<< 1) 0 s)) ∧ w2.cell? ⟨w1.heap.size + 1, 0, none⟩ = some (.bool (bitAt x 7)) ∧ w2.cell? ⟨w1.heap.size + 1, 1, none⟩ = some (.bool (bitAt t 7)) := by
      refine ⟨?_, ?_, ?_, ?_, ?_, ?_, ?_, ?_⟩ <;> refine kc hb ?_ <;> (go_simp; first | done | rfl)
  have hz := hb.size
  (try simp only [World.size_alloc, World.size_setCell, World.size_drew] at hz)
  have hla' : w.heap.size < w2.heap.size := by omega
  have hlb' : w.heap.size + 1 < w2.heap.size := by omega
  have hll1' : w1.heap.size < w2.heap.size := by omega
  have hlx1' : w1.heap.size + 1 < w2.heap.size := by omega
  have hB' : Below w.heap.size w w2 := by
      refine kb ?_ hb
      go_grown
  clear ha_0 ha_1 hb_0 hb_1 hla hlb hna0 hna1 hka1 hna2 hka2 hnb0 hkb1 hB hsz
  clear hb hz
  obtain ⟨ha_0, ha_1, hb_0, hb_1, hl1_0, hl1_1, hx1_0, hx1_1⟩ := T
  have hla := hla'; clear hla'
  have hlb := hlb'; clear hlb'
  have hll1 := hll1'; clear hll1'
  have hlx1 := hlx1'; clear hlx1'
  have hna0 : ¬ (w.heap.size = w2.heap.size) := by omega
  have hna1 : ¬ (w.heap.size = w2.heap.size + 1) := by omega
  have hka1 : w.heap.size < w2.heap.size + 1 := by omega
  have hna2 : ¬ (w.heap.size = w2.heap.size + 1 + 1) := by omega
  have hka2 : w.heap.size < w2.heap.size + 1 + 1 := by omega
  have hnb0 : ¬ (w.heap.size + 1 = w2.heap.size) := by omega
  have hkb1 : w.heap.size < w2.heap.size := by omega
  have hnl10 : ¬ (w1.heap.size = w2.heap.size) := by omega
  have hnl11 : ¬ (w1.heap.size = w2.heap.size + 1) := by omega
  have hkl11 : w1.heap.size < w2.heap.size + 1 := by omega
  have hnl12 : ¬ (w1.heap.size = w2.heap.size + 1 + 1) := by omega
  have hkl12 : w1.heap.size < w2.heap.size + 1 + 1 := by omega
  have hnx10 : ¬ (w1.heap.size + 1 = w2.heap.size) := by omega
  have hkx11 : w1.heap.size < w2.heap.size := by omega
  have hB := hB'; clear hB'
  have hsz := hB.size
  go_wp2_with fail
  ((with_reducible refine (left_r x t v s _).mono ?_); rintro _ w3 ⟨rfl, hb⟩)
  have T : w3.cell? ⟨w.heap.size, 0, none⟩ = some (B8 x) ∧ w3.cell? ⟨w.heap.size, 1, none⟩ = some (B8 t) ∧ w3.cell? ⟨w.heap.size + 1, 0, none⟩ = some (.bool v) ∧ w3.cell? ⟨w.heap.size + 1, 1, none⟩ = some (.bool s) ∧ w3.cell? ⟨w1.heap.size, 0, none⟩ = some (B8 (setB (x <<< 1) 0 v)) ∧ w3.cell? ⟨w1.heap.size, 1, none⟩ = some (B8 (setB (t <<< 1) 0 s)) ∧ w3.cell? ⟨w1.heap.size + 1, 0, none⟩ = some (.bool (bitAt x 7)) ∧ w3.cell? ⟨w1.heap.size + 1, 1, none⟩ = some (.bool (bitAt t 7)) ∧ w3.cell? ⟨w2.heap.size, 0, none⟩ = some (B8 (setB (x >>> 1) 7 v)) ∧ w3.cell? ⟨w2.heap.size, 1, none⟩ = some (B8 (setB (t >>> 1) 7 s)) ∧ w3.cell? ⟨w2.heap.size + 1, 0, none⟩ = some (.bool (bitAt x 0)) ∧ w3.cell? ⟨w2.heap.size + 1, 1, none⟩ = some (.bool (bitAt t 0)) := by
      refine ⟨?_, ?_, ?_, ?_, ?_, ?_, ?_, ?_, ?_, ?_, ?_, ?_⟩ <;> refine kc hb ?_ <;> (go_simp; first | done | rfl)
  have hz := hb.size
  (try simp only [World.size_alloc, World.size_setCell, World.size_drew] at hz)
  have hla' : w.heap.size < w3.heap.size := by omega
  have hlb' : w.heap.size + 1 < w3.heap.size := by omega
  have hll1' : w1.heap.size < w3.heap.size := by omega
  have hlx1' : w1.heap.size + 1 < w3.heap.size := by omega
  have hlr1' : w2.heap.size < w3.heap.size := by omega
  have hly1' : w2.heap.size + 1 < w3.heap.size := by omega
  have hB' : Below w.heap.size w w3 := by
      refine kb ?_ hb
      go_grown
  clear ha_0 ha_1 hb_0 hb_1 hl1_0 hl1_1 hx1_0 hx1_1 hla hlb hll1 hlx1 hna0 hna1 hka1 hna2 hka2 hnb0 hkb1 hnl10 hnl11 hkl11 hnl12 hkl12 hnx10 hkx11 hB hsz
  clear hb hz
  obtain ⟨ha_0, ha_1, hb_0, hb_1, hl1_0, hl1_1, hx1_0, hx1_1, hr1_0, hr1_1, hy1_0, hy1_1⟩ := T
  have hla := hla'; clear hla'
  have hlb := hlb'; clear hlb'
  have hll1 := hll1'; clear hll1'
  have hlx1 := hlx1'; clear hlx1'
  have hlr1 := hlr1'; clear hlr1'
  have hly1 := hly1'; clear hly1'
  have hna0 : ¬ (w.heap.size = w3.heap.size) := by omega
  have hna1 : ¬ (w.heap.size = w3.heap.size + 1) := by omega
  have hka1 : w.heap.size < w3.heap.size + 1 := by omega
  have hna2 : ¬ (w.heap.size = w3.heap.size + 1 + 1) := by omega
  have hka2 : w.heap.size < w3.heap.size + 1 + 1 := by omega
  have hnb0 : ¬ (w.heap.size + 1 = w3.heap.size) := by omega
  have hkb1 : w.heap.size < w3.heap.size := by omega
  have hnl10 : ¬ (w1.heap.size = w3.heap.size) := by omega
  have hnl11 : ¬ (w1.heap.size = w3.heap.size + 1) := by omega
  have hkl11 : w1.heap.size < w3.heap.size + 1 := by omega
  have hnl12 : ¬ (w1.heap.size = w3.heap.size + 1 + 1) := by omega
  have hkl12 : w1.heap.size < w3.heap.size + 1 + 1 := by omega
  have hnx10 : ¬ (w1.heap.size + 1 = w3.heap.size) := by omega
  have hkx11 : w1.heap.size < w3.heap.size := by omega
  have hnr10 : ¬ (w2.heap.size = w3.heap.size) := by omega
  have hnr11 : ¬ (w2.heap.size = w3.heap.size + 1) := by omega
  have hkr11 : w2.heap.size < w3.heap.size + 1 := by omega
  have hnr12 : ¬ (w2.heap.size = w3.heap.size + 1 + 1) := by omega
  have hkr12 : w2.heap.size < w3.heap.size + 1 + 1 := by omega
  have hny10 : ¬ (w2.heap.size + 1 = w3.heap.size) := by omega
  have hky11 : w2.heap.size < w3.heap.size := by omega
  have hB := hB'; clear hB'
  have hsz := hB.size
  go_wp2_with fail
  ((with_reducible refine (right_r x t v s _).mono ?_); rintro _ w4 ⟨rfl, hb⟩)
  have T : w4.cell? ⟨w.heap.size, 0, none⟩ = some (B8 x) ∧ w4.cell? ⟨w.heap.size, 1, none⟩ = some (B8 t) ∧ w4.cell? ⟨w.heap.size + 1, 0, none⟩ = some (.bool v) ∧ w4.cell? ⟨w.heap.size + 1, 1, none⟩ = some (.bool s) ∧ w4.cell? ⟨w1.heap.size, 0, none⟩ = some (B8 (setB (x <<< 1) 0 v)) ∧ w4.cell? ⟨w1.heap.size, 1, none⟩ = some (B8 (setB (t <<< 1) 0 s)) ∧ w4.cell? ⟨w1.heap.size + 1, 0, none⟩ = some (.bool (bitAt x 7)) ∧ w4.cell? ⟨w1.heap.size + 1, 1, none⟩ = some (.bool (bitAt t 7)) ∧ w4.cell? ⟨w2.heap.size, 0, none⟩ = some (B8 (setB (x >>> 1) 7 v)) ∧ w4.cell? ⟨w2.heap.size, 1, none⟩ = some (B8 (setB (t >>> 1) 7 s)) ∧ w4.cell? ⟨w2.heap.size + 1, 0, none⟩ = some (.bool (bitAt x 0)) ∧ w4.cell? ⟨w2.heap.size + 1, 1, none⟩ = some (.bool (bitAt t 0)) ∧ w4.cell? ⟨w3.heap.size, 0, none⟩ = some (B8 (setB (x <<< 1) 0 v)) ∧ w4.cell? ⟨w3.heap.size, 1, none⟩ = some (B8 (setB (t <<< 1) 0 s)) ∧ w4.cell? ⟨w3.heap.size + 1, 0, none⟩ = some (.bool (bitAt x 7)) ∧ w4.cell? ⟨w3.heap.size + 1, 1, none⟩ = some (.bool (bitAt t 7)) := by
      refine ⟨?_, ?_, ?_, ?_, ?_, ?_, ?_, ?_, ?_, ?_, ?_, ?_, ?_, ?_, ?_, ?_⟩ <;> refine kc hb ?_ <;> (go_simp; first | done | rfl)
  have hz := hb.size
  (try simp only [World.size_alloc, World.size_setCell, World.size_drew] at hz)
  have hla' : w.heap.size < w4.heap.size := by omega
  have hlb' : w.heap.size + 1 < w4.heap.size := by omega
  have hll1' : w1.heap.size < w4.heap.size := by omega
  have hlx1' : w1.heap.size + 1 < w4.heap.size := by omega
  have hlr1' : w2.heap.size < w4.heap.size := by omega
  have hly1' : w2.heap.size + 1 < w4.heap.size := by omega
  have hll2' : w3.heap.size < w4.heap.size := by omega
  have hlx2' : w3.heap.size + 1 < w4.heap.size := by omega
  have hB' : Below w.heap.size w w4 := by
      refine kb ?_ hb
      go_grown
  clear ha_0 ha_1 hb_0 hb_1 hl1_0 hl1_1 hx1_0 hx1_1 hr1_0 hr1_1 hy1_0 hy1_1 hla hlb hll1 hlx1 hlr1 hly1 hna0 hna1 hka1 hna2 hka2 hnb0 hkb1 hnl10 hnl11 hkl11 hnl12 hkl12 hnx10 hkx11 hnr10 hnr11 hkr11 hnr12 hkr12 hny10 hky11 hB hsz
  clear hb hz
  obtain ⟨ha_0, ha_1, hb_0, hb_1, hl1_0, hl1_1, hx1_0, hx1_1, hr1_0, hr1_1, hy1_0, hy1_1, hl2_0, hl2_1, hx2_0, hx2_1⟩ := T
  have hla := hla'; clear hla'
  have hlb := hlb'; clear hlb'
  have hll1 := hll1'; clear hll1'
  have hlx1 := hlx1'; clear hlx1'
  have hlr1 := hlr1'; clear hlr1'
  have hly1 := hly1'; clear hly1'
  have hll2 := hll2'; clear hll2'
  have hlx2 := hlx2'; clear hlx2'
  have hna0 : ¬ (w.heap.size = w4.heap.size) := by omega
  have hna1 : ¬ (w.heap.size = w4.heap.size + 1) := by omega
  have hka1 : w.heap.size < w4.heap.size + 1 := by omega
  have hna2 : ¬ (w.heap.size = w4.heap.size + 1 + 1) := by omega
  have hka2 : w.heap.size < w4.heap.size + 1 + 1 := by omega
  have hnb0 : ¬ (w.heap.size + 1 = w4.heap.size) := by omega
  have hkb1 : w.heap.size < w4.heap.size := by omega
  have hnl10 : ¬ (w1.heap.size = w4.heap.size) := by omega
  have hnl11 : ¬ (w1.heap.size = w4.heap.size + 1) := by omega
  have hkl11 : w1.heap.size < w4.heap.size + 1 := by omega
  have hnl12 : ¬ (w1.heap.size = w4.heap.size + 1 + 1) := by omega
  have hkl12 : w1.heap.size < w4.heap.size + 1 + 1 := by omega
  have hnx10 : ¬ (w1.heap.size + 1 = w4.heap.size) := by omega
  have hkx11 : w1.heap.size < w4.heap.size := by omega
  have hnr10 : ¬ (w2.heap.size = w4.heap.size) := by omega
  have hnr11 : ¬ (w2.heap.size = w4.heap.size + 1) := by omega
  have hkr11 : w2.heap.size < w4.heap.size + 1 := by omega
  have hnr12 : ¬ (w2.heap.size = w4.heap.size + 1 + 1) := by omega
  have hkr12 : w2.heap.size < w4.heap.size + 1 + 1 := by omega
  have hny10 : ¬ (w2.heap.size + 1 = w4.heap.size) := by omega
  have hky11 : w2.heap.size < w4.heap.size := by omega
  have hnl20 : ¬ (w3.heap.size = w4.heap.size) := by omega
  have hnl21 : ¬ (w3.heap.size = w4.heap.size + 1) := by omega
  have hkl21 : w3.heap.size < w4.heap.size + 1 := by omega
  have hnl22 : ¬ (w3.heap.size = w4.heap.size + 1 + 1) := by omega
  have hkl22 : w3.heap.size < w4.heap.size + 1 + 1 := by omega
  have hnx20 : ¬ (w3.heap.size + 1 = w4.heap.size) := by omega
  have hkx21 : w3.heap.size < w4.heap.size := by omega
  have hB := hB'; clear hB'
  have hsz := hB.size
  go_wp2_with fail
  ((with_reducible refine (awake_c _).mono ?_); rintro _ w5 ⟨rfl, hb⟩)
  have T : w5.cell? ⟨w.heap.size, 0, none⟩ = some (B8 x) ∧ w5.cell? ⟨w.heap.size, 1, none⟩ = some (B8 t) ∧ w5.cell? ⟨w.heap.size + 1, 0, none⟩ = some (.bool v) ∧ w5.cell? ⟨w.heap.size + 1, 1, none⟩ = some (.bool s) := by
      refine ⟨?_, ?_, ?_, ?_⟩ <;> refine kc hb ?_ <;> (go_simp; first | done | rfl)
  have hz := hb.size
  (try simp only [World.size_alloc, World.size_setCell, World.size_drew] at hz)
  have hla' : w.heap.size < w5.heap.size := by omega
  have hlb' : w.heap.size + 1 < w5.heap.size := by omega
  have hB' : Below w.heap.size w w5 := by
      refine kb ?_ hb
      go_grown
  clear ha_0 ha_1 hb_0 hb_1 hl1_0 hl1_1 hx1_0 hx1_1 hr1_0 hr1_1 hy1_0 hy1_1 hl2_0 hl2_1 hx2_0 hx2_1 hla hlb hll1 hlx1 hlr1 hly1 hll2 hlx2 hna0 hna1 hka1 hna2 hka2 hnb0 hkb1 hnl10 hnl11 hkl11 hnl12 hkl12 hnx10 hkx11 hnr10 hnr11 hkr11 hnr12 hkr12 hny10 hky11 hnl20 hnl21 hkl21 hnl22 hkl22 hnx20 hkx21 hB hsz
  clear hb hz
  obtain ⟨ha_0, ha_1, hb_0, hb_1⟩ := T
  have hla := hla'; clear hla'
  have hlb := hlb'; clear hlb'
  have hna0 : ¬ (w.heap.size = w5.heap.size) := by omega
  have hna1 : ¬ (w.heap.size = w5.heap.size + 1) := by omega
  have hka1 : w.heap.size < w5.heap.size + 1 := by omega
  have hna2 : ¬ (w.heap.size = w5.heap.size + 1 + 1) := by omega
  have hka2 : w.heap.size < w5.heap.size + 1 + 1 := by omega
  have hnb0 : ¬ (w.heap.size + 1 = w5.heap.size) := by omega
  have hkb1 : w.heap.size < w5.heap.size := by omega
  have hB := hB'; clear hB'
  have hsz := hB.size
  go_wp2
  go_ret
  exact ⟨rfl, hB⟩
end Go.Proofs.Ytbbiegbfoimcaaa
