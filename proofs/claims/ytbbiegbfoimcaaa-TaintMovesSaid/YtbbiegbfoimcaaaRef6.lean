/-
  What the document's answer of layer 1 comes to: Left and Right.
-/
import Derived.Test.YtbbiegbfoimcaaaRef4
import Derived.Test.YtbbiegbfoimcaaaRef5
set_option linter.unusedSimpArgs false
set_option linter.unusedVariables false
namespace Go.Proofs.Ytbbiegbfoimcaaa
open Go.RowKit

theorem made_left (x t : BitVec 8) (v s : Bool) (w : World) : Calls Try.prog 41 #[.agg #[.bool v, .bool s, .bool (bitAt x 0), .bool (bitAt t 0), .bool (bitAt x 1), .bool (bitAt t 1), .bool (bitAt x 2), .bool (bitAt t 2), .bool (bitAt x 3), .bool (bitAt t 3), .bool (bitAt x 4), .bool (bitAt t 4), .bool (bitAt x 5), .bool (bitAt t 5), .bool (bitAt x 6), .bool (bitAt t 6)]] w
    fun e w' => e = .returned (TB (setB (x <<< 1) 0 v) (setB (t <<< 1) 0 s)) ∧ Below w.heap.size w w' := by
  have h := made_l v (bitAt x 0) (bitAt x 1) (bitAt x 2) (bitAt x 3) (bitAt x 4) (bitAt x 5) (bitAt x 6) s (bitAt t 0) (bitAt t 1) (bitAt t 2) (bitAt t 3) (bitAt t 4) (bitAt t 5) (bitAt t 6) w
  rw [sel_left, sel_left] at h
  exact h
theorem made_right (x t : BitVec 8) (v s : Bool) (w : World) : Calls Try.prog 41 #[.agg #[.bool (bitAt x 1), .bool (bitAt t 1), .bool (bitAt x 2), .bool (bitAt t 2), .bool (bitAt x 3), .bool (bitAt t 3), .bool (bitAt x 4), .bool (bitAt t 4), .bool (bitAt x 5), .bool (bitAt t 5), .bool (bitAt x 6), .bool (bitAt t 6), .bool (bitAt x 7), .bool (bitAt t 7), .bool v, .bool s]] w
    fun e w' => e = .returned (TB (setB (x >>> 1) 7 v) (setB (t >>> 1) 7 s)) ∧ Below w.heap.size w w' := by
  have h := made_l (bitAt x 1) (bitAt x 2) (bitAt x 3) (bitAt x 4) (bitAt x 5) (bitAt x 6) (bitAt x 7) v (bitAt t 1) (bitAt t 2) (bitAt t 3) (bitAt t 4) (bitAt t 5) (bitAt t 6) (bitAt t 7) s w
  rw [sel_right, sel_right] at h
  exact h
theorem made_self (x t : BitVec 8) (w : World) : Calls Try.prog 41 #[.agg #[.bool (bitAt x 0), .bool (bitAt t 0), .bool (bitAt x 1), .bool (bitAt t 1), .bool (bitAt x 2), .bool (bitAt t 2), .bool (bitAt x 3), .bool (bitAt t 3), .bool (bitAt x 4), .bool (bitAt t 4), .bool (bitAt x 5), .bool (bitAt t 5), .bool (bitAt x 6), .bool (bitAt t 6), .bool (bitAt x 7), .bool (bitAt t 7)]] w
    fun e w' => e = .returned (TB x t) ∧ Below w.heap.size w w' := by
  have h := made_l (bitAt x 0) (bitAt x 1) (bitAt x 2) (bitAt x 3) (bitAt x 4) (bitAt x 5) (bitAt x 6) (bitAt x 7) (bitAt t 0) (bitAt t 1) (bitAt t 2) (bitAt t 3) (bitAt t 4) (bitAt t 5) (bitAt t 6) (bitAt t 7) w
  rw [sel_self, sel_self] at h
  exact h

set_option maxRecDepth 100000 in
set_option maxHeartbeats 2000000 in
theorem left_r (x t : BitVec 8) (v s : Bool) (w : World) : Calls Try.prog 18 #[TB x t, TBit v s] w fun e w' => e = .returned (.tuple #[TB (setB (x <<< 1) 0 v) (setB (t <<< 1) 0 s), TBit (bitAt x 7) (bitAt t 7)]) ∧ Below w.heap.size w w' := by
  go_enter Try.func18, Try.ntmps18
  go_wp2_with fail
  ((with_reducible refine (bits_r x t _).mono ?_); rintro _ w1 ⟨rfl, hb⟩)
  have T : w1.cell? ⟨w.heap.size, 0, none⟩ = some (B8 x) ∧ w1.cell? ⟨w.heap.size, 1, none⟩ = some (B8 t) ∧ w1.cell? ⟨w.heap.size + 1, 0, none⟩ = some (.bool v) ∧ w1.cell? ⟨w.heap.size + 1, 1, none⟩ = some (.bool s) ∧ w1.cell? ⟨w.heap.size + 1 + 1, 0, none⟩ = some (.int .u8 0) ∧ w1.frozen? ⟨w.heap.size + 1 + 1, 0, none⟩ = false ∧ w1.cell? ⟨w.heap.size + 1 + 1, 1, none⟩ = some (.int .u8 0) ∧ w1.frozen? ⟨w.heap.size + 1 + 1, 1, none⟩ = false ∧ w1.cell? ⟨w.heap.size + 1 + 1 + 1, 0, none⟩ = some (.bool false) ∧ w1.frozen? ⟨w.heap.size + 1 + 1 + 1, 0, none⟩ = false ∧ w1.cell? ⟨w.heap.size + 1 + 1 + 1, 1, none⟩ = some (.bool false) ∧ w1.frozen? ⟨w.heap.size + 1 + 1 + 1, 1, none⟩ = false := by
      refine ⟨?_, ?_, ?_, ?_, ?_, ?_, ?_, ?_, ?_, ?_, ?_, ?_⟩ <;> first | (refine kc hb ?_ <;> (go_simp; first | done | rfl)) | (refine kfz hb ?_ ?_ <;> first | (go_size; done) | (go_simp; done))
  have hz := hb.size
  (try simp only [World.size_alloc, World.size_setCell, World.size_drew] at hz)
  have hla' : w.heap.size < w1.heap.size := by omega
  have hlb' : w.heap.size + 1 < w1.heap.size := by omega
  have hlp' : w.heap.size + 1 + 1 < w1.heap.size := by omega
  have hlq' : w.heap.size + 1 + 1 + 1 < w1.heap.size := by omega
  have hB' : Below w.heap.size w w1 := by
      refine kb ?_ hb
      go_grown
  clear hb hz
  obtain ⟨ha_0, ha_1, hb_0, hb_1, hp_0, fp_0, hp_1, fp_1, hq_0, fq_0, hq_1, fq_1⟩ := T
  have hla := hla'; clear hla'
  have hlb := hlb'; clear hlb'
  have hlp := hlp'; clear hlp'
  have hlq := hlq'; clear hlq'
  have hna0 : ¬ (w.heap.size = w1.heap.size) := by omega
  have hna1 : ¬ (w.heap.size = w1.heap.size + 1) := by omega
  have hka1 : w.heap.size < w1.heap.size + 1 := by omega
  have hna2 : ¬ (w.heap.size = w1.heap.size + 1 + 1) := by omega
  have hka2 : w.heap.size < w1.heap.size + 1 + 1 := by omega
  have hnb0 : ¬ (w.heap.size + 1 = w1.heap.size) := by omega
  have hkb1 : w.heap.size < w1.heap.size := by omega
  have hnp0 : ¬ (w.heap.size + 1 + 1 = w1.heap.size) := by omega
  have hkp1 : w.heap.size + 1 < w1.heap.size := by omega
  have hnq0 : ¬ (w.heap.size + 1 + 1 + 1 = w1.heap.size) := by omega
  have hkq1 : w.heap.size + 1 + 1 < w1.heap.size := by omega
  have hB := hB'; clear hB'
  have hsz := hB.size
  go_upto_region 3 with (fail)
  go_region_held3 (fun w' => w'.cell? ⟨w1.heap.size, 14, none⟩ = some (.bool (bitAt x 7)) ∧ w'.cell? ⟨w1.heap.size, 15, none⟩ = some (.bool (bitAt t 7)) ∧ w'.cell? ⟨w1.heap.size + 1, 0, none⟩ = some (.bool v) ∧ w'.cell? ⟨w1.heap.size + 1, 1, none⟩ = some (.bool s) ∧ w'.cell? ⟨w1.heap.size + 1, 2, none⟩ = some (.bool (bitAt x 0)) ∧ w'.cell? ⟨w1.heap.size + 1, 3, none⟩ = some (.bool (bitAt t 0)) ∧ w'.cell? ⟨w1.heap.size + 1, 4, none⟩ = some (.bool (bitAt x 1)) ∧ w'.cell? ⟨w1.heap.size + 1, 5, none⟩ = some (.bool (bitAt t 1)) ∧ w'.cell? ⟨w1.heap.size + 1, 6, none⟩ = some (.bool (bitAt x 2)) ∧ w'.cell? ⟨w1.heap.size + 1, 7, none⟩ = some (.bool (bitAt t 2)) ∧ w'.cell? ⟨w1.heap.size + 1, 8, none⟩ = some (.bool (bitAt x 3)) ∧ w'.cell? ⟨w1.heap.size + 1, 9, none⟩ = some (.bool (bitAt t 3)) ∧ w'.cell? ⟨w1.heap.size + 1, 10, none⟩ = some (.bool (bitAt x 4)) ∧ w'.cell? ⟨w1.heap.size + 1, 11, none⟩ = some (.bool (bitAt t 4)) ∧ w'.cell? ⟨w1.heap.size + 1, 12, none⟩ = some (.bool (bitAt x 5)) ∧ w'.cell? ⟨w1.heap.size + 1, 13, none⟩ = some (.bool (bitAt t 5)) ∧ w'.cell? ⟨w1.heap.size + 1, 14, none⟩ = some (.bool (bitAt x 6)) ∧ w'.cell? ⟨w1.heap.size + 1, 15, none⟩ = some (.bool (bitAt t 6)) ∧ Below w.heap.size w w') (first | (have hh := ‹_ ∧ _›; exact ⟨kc hb hh.1, kc hb hh.2.1, kc hb hh.2.2.1, kc hb hh.2.2.2.1, kc hb hh.2.2.2.2.1, kc hb hh.2.2.2.2.2.1, kc hb hh.2.2.2.2.2.2.1, kc hb hh.2.2.2.2.2.2.2.1, kc hb hh.2.2.2.2.2.2.2.2.1, kc hb hh.2.2.2.2.2.2.2.2.2.1, kc hb hh.2.2.2.2.2.2.2.2.2.2.1, kc hb hh.2.2.2.2.2.2.2.2.2.2.2.1, kc hb hh.2.2.2.2.2.2.2.2.2.2.2.2.1, kc hb hh.2.2.2.2.2.2.2.2.2.2.2.2.2.1, kc hb hh.2.2.2.2.2.2.2.2.2.2.2.2.2.2.1, kc hb hh.2.2.2.2.2.2.2.2.2.2.2.2.2.2.2.1, kc hb hh.2.2.2.2.2.2.2.2.2.2.2.2.2.2.2.2.1, kc hb hh.2.2.2.2.2.2.2.2.2.2.2.2.2.2.2.2.2.1, kb hh.2.2.2.2.2.2.2.2.2.2.2.2.2.2.2.2.2.2 hb⟩) | (refine ⟨?_, ?_, ?_, ?_, ?_, ?_, ?_, ?_, ?_, ?_, ?_, ?_, ?_, ?_, ?_, ?_, ?_, ?_, ?_⟩ <;> first | (go_simp; done) | (simp [*]; done) | (have hh := ‹_ ∧ _›; have hq := hh.2.2.2.2.2.2.2.2.2.2.2.2.2.2.2.2.2.2; go_grown; done) | go_grown)) (first | (go_at_call 41; ((with_reducible refine (made_left _ _ _ _ _).mono ?_); rintro _ wz ⟨rfl, hb⟩; have ahp_0 : wz.cell? ⟨w.heap.size + 1 + 1, 0, none⟩ = some (.int .u8 0) := (by first | (refine kc hb ?_; go_simp; done) | (refine kfz hb ?_ ?_ <;> first | (go_size; done) | (go_simp; done))); have afp_0 : wz.frozen? ⟨w.heap.size + 1 + 1, 0, none⟩ = false := (by first | (refine kc hb ?_; go_simp; done) | (refine kfz hb ?_ ?_ <;> first | (go_size; done) | (go_simp; done))); have ahp_1 : wz.cell? ⟨w.heap.size + 1 + 1, 1, none⟩ = some (.int .u8 0) := (by first | (refine kc hb ?_; go_simp; done) | (refine kfz hb ?_ ?_ <;> first | (go_size; done) | (go_simp; done))); have afp_1 : wz.frozen? ⟨w.heap.size + 1 + 1, 1, none⟩ = false := (by first | (refine kc hb ?_; go_simp; done) | (refine kfz hb ?_ ?_ <;> first | (go_size; done) | (go_simp; done))); have ahq_0 : wz.cell? ⟨w.heap.size + 1 + 1 + 1, 0, none⟩ = some (.bool false) := (by first | (refine kc hb ?_; go_simp; done) | (refine kfz hb ?_ ?_ <;> first | (go_size; done) | (go_simp; done))); have afq_0 : wz.frozen? ⟨w.heap.size + 1 + 1 + 1, 0, none⟩ = false := (by first | (refine kc hb ?_; go_simp; done) | (refine kfz hb ?_ ?_ <;> first | (go_size; done) | (go_simp; done))); have ahq_1 : wz.cell? ⟨w.heap.size + 1 + 1 + 1, 1, none⟩ = some (.bool false) := (by first | (refine kc hb ?_; go_simp; done) | (refine kfz hb ?_ ?_ <;> first | (go_size; done) | (go_simp; done))); have afq_1 : wz.frozen? ⟨w.heap.size + 1 + 1 + 1, 1, none⟩ = false := (by first | (refine kc hb ?_; go_simp; done) | (refine kfz hb ?_ ?_ <;> first | (go_size; done) | (go_simp; done))))))
  have hh := ‹_ ∧ _›; have hBe := hh.2.2.2.2.2.2.2.2.2.2.2.2.2.2.2.2.2.2
  go_wp2
  refine bodyPost_ret (v := .tuple #[TB _ _, TBit _ _]) (by simp [results, Try.results18, go_sem, ahp_0, ahp_1, ahq_0, ahq_1]) rfl ⟨rfl, by go_grown⟩

set_option maxRecDepth 100000 in
set_option maxHeartbeats 2000000 in
theorem right_r (x t : BitVec 8) (v s : Bool) (w : World) : Calls Try.prog 19 #[TB x t, TBit v s] w fun e w' => e = .returned (.tuple #[TB (setB (x >>> 1) 7 v) (setB (t >>> 1) 7 s), TBit (bitAt x 0) (bitAt t 0)]) ∧ Below w.heap.size w w' := by
  go_enter Try.func19, Try.ntmps19
  go_wp2_with fail
  ((with_reducible refine (bits_r x t _).mono ?_); rintro _ w1 ⟨rfl, hb⟩)
  have T : w1.cell? ⟨w.heap.size, 0, none⟩ = some (B8 x) ∧ w1.cell? ⟨w.heap.size, 1, none⟩ = some (B8 t) ∧ w1.cell? ⟨w.heap.size + 1, 0, none⟩ = some (.bool v) ∧ w1.cell? ⟨w.heap.size + 1, 1, none⟩ = some (.bool s) ∧ w1.cell? ⟨w.heap.size + 1 + 1, 0, none⟩ = some (.int .u8 0) ∧ w1.frozen? ⟨w.heap.size + 1 + 1, 0, none⟩ = false ∧ w1.cell? ⟨w.heap.size + 1 + 1, 1, none⟩ = some (.int .u8 0) ∧ w1.frozen? ⟨w.heap.size + 1 + 1, 1, none⟩ = false ∧ w1.cell? ⟨w.heap.size + 1 + 1 + 1, 0, none⟩ = some (.bool false) ∧ w1.frozen? ⟨w.heap.size + 1 + 1 + 1, 0, none⟩ = false ∧ w1.cell? ⟨w.heap.size + 1 + 1 + 1, 1, none⟩ = some (.bool false) ∧ w1.frozen? ⟨w.heap.size + 1 + 1 + 1, 1, none⟩ = false := by
      refine ⟨?_, ?_, ?_, ?_, ?_, ?_, ?_, ?_, ?_, ?_, ?_, ?_⟩ <;> first | (refine kc hb ?_ <;> (go_simp; first | done | rfl)) | (refine kfz hb ?_ ?_ <;> first | (go_size; done) | (go_simp; done))
  have hz := hb.size
  (try simp only [World.size_alloc, World.size_setCell, World.size_drew] at hz)
  have hla' : w.heap.size < w1.heap.size := by omega
  have hlb' : w.heap.size + 1 < w1.heap.size := by omega
  have hlp' : w.heap.size + 1 + 1 < w1.heap.size := by omega
  have hlq' : w.heap.size + 1 + 1 + 1 < w1.heap.size := by omega
  have hB' : Below w.heap.size w w1 := by
      refine kb ?_ hb
      go_grown
  clear hb hz
  obtain ⟨ha_0, ha_1, hb_0, hb_1, hp_0, fp_0, hp_1, fp_1, hq_0, fq_0, hq_1, fq_1⟩ := T
  have hla := hla'; clear hla'
  have hlb := hlb'; clear hlb'
  have hlp := hlp'; clear hlp'
  have hlq := hlq'; clear hlq'
  have hna0 : ¬ (w.heap.size = w1.heap.size) := by omega
  have hna1 : ¬ (w.heap.size = w1.heap.size + 1) := by omega
  have hka1 : w.heap.size < w1.heap.size + 1 := by omega
  have hna2 : ¬ (w.heap.size = w1.heap.size + 1 + 1) := by omega
  have hka2 : w.heap.size < w1.heap.size + 1 + 1 := by omega
  have hnb0 : ¬ (w.heap.size + 1 = w1.heap.size) := by omega
  have hkb1 : w.heap.size < w1.heap.size := by omega
  have hnp0 : ¬ (w.heap.size + 1 + 1 = w1.heap.size) := by omega
  have hkp1 : w.heap.size + 1 < w1.heap.size := by omega
  have hnq0 : ¬ (w.heap.size + 1 + 1 + 1 = w1.heap.size) := by omega
  have hkq1 : w.heap.size + 1 + 1 < w1.heap.size := by omega
  have hB := hB'; clear hB'
  have hsz := hB.size
  go_upto_region 3 with (fail)
  go_region_held3 (fun w' => w'.cell? ⟨w1.heap.size, 0, none⟩ = some (.bool (bitAt x 0)) ∧ w'.cell? ⟨w1.heap.size, 1, none⟩ = some (.bool (bitAt t 0)) ∧ w'.cell? ⟨w1.heap.size + 1, 0, none⟩ = some (.bool (bitAt x 1)) ∧ w'.cell? ⟨w1.heap.size + 1, 1, none⟩ = some (.bool (bitAt t 1)) ∧ w'.cell? ⟨w1.heap.size + 1, 2, none⟩ = some (.bool (bitAt x 2)) ∧ w'.cell? ⟨w1.heap.size + 1, 3, none⟩ = some (.bool (bitAt t 2)) ∧ w'.cell? ⟨w1.heap.size + 1, 4, none⟩ = some (.bool (bitAt x 3)) ∧ w'.cell? ⟨w1.heap.size + 1, 5, none⟩ = some (.bool (bitAt t 3)) ∧ w'.cell? ⟨w1.heap.size + 1, 6, none⟩ = some (.bool (bitAt x 4)) ∧ w'.cell? ⟨w1.heap.size + 1, 7, none⟩ = some (.bool (bitAt t 4)) ∧ w'.cell? ⟨w1.heap.size + 1, 8, none⟩ = some (.bool (bitAt x 5)) ∧ w'.cell? ⟨w1.heap.size + 1, 9, none⟩ = some (.bool (bitAt t 5)) ∧ w'.cell? ⟨w1.heap.size + 1, 10, none⟩ = some (.bool (bitAt x 6)) ∧ w'.cell? ⟨w1.heap.size + 1, 11, none⟩ = some (.bool (bitAt t 6)) ∧ w'.cell? ⟨w1.heap.size + 1, 12, none⟩ = some (.bool (bitAt x 7)) ∧ w'.cell? ⟨w1.heap.size + 1, 13, none⟩ = some (.bool (bitAt t 7)) ∧ w'.cell? ⟨w1.heap.size + 1, 14, none⟩ = some (.bool v) ∧ w'.cell? ⟨w1.heap.size + 1, 15, none⟩ = some (.bool s) ∧ Below w.heap.size w w') (first | (have hh := ‹_ ∧ _›; exact ⟨kc hb hh.1, kc hb hh.2.1, kc hb hh.2.2.1, kc hb hh.2.2.2.1, kc hb hh.2.2.2.2.1, kc hb hh.2.2.2.2.2.1, kc hb hh.2.2.2.2.2.2.1, kc hb hh.2.2.2.2.2.2.2.1, kc hb hh.2.2.2.2.2.2.2.2.1, kc hb hh.2.2.2.2.2.2.2.2.2.1, kc hb hh.2.2.2.2.2.2.2.2.2.2.1, kc hb hh.2.2.2.2.2.2.2.2.2.2.2.1, kc hb hh.2.2.2.2.2.2.2.2.2.2.2.2.1, kc hb hh.2.2.2.2.2.2.2.2.2.2.2.2.2.1, kc hb hh.2.2.2.2.2.2.2.2.2.2.2.2.2.2.1, kc hb hh.2.2.2.2.2.2.2.2.2.2.2.2.2.2.2.1, kc hb hh.2.2.2.2.2.2.2.2.2.2.2.2.2.2.2.2.1, kc hb hh.2.2.2.2.2.2.2.2.2.2.2.2.2.2.2.2.2.1, kb hh.2.2.2.2.2.2.2.2.2.2.2.2.2.2.2.2.2.2 hb⟩) | (refine ⟨?_, ?_, ?_, ?_, ?_, ?_, ?_, ?_, ?_, ?_, ?_, ?_, ?_, ?_, ?_, ?_, ?_, ?_, ?_⟩ <;> first | (go_simp; done) | (simp [*]; done) | (have hh := ‹_ ∧ _›; have hq := hh.2.2.2.2.2.2.2.2.2.2.2.2.2.2.2.2.2.2; go_grown; done) | go_grown)) (first | (go_at_call 41; ((with_reducible refine (made_right _ _ _ _ _).mono ?_); rintro _ wz ⟨rfl, hb⟩; have ahp_0 : wz.cell? ⟨w.heap.size + 1 + 1, 0, none⟩ = some (.int .u8 0) := (by first | (refine kc hb ?_; go_simp; done) | (refine kfz hb ?_ ?_ <;> first | (go_size; done) | (go_simp; done))); have afp_0 : wz.frozen? ⟨w.heap.size + 1 + 1, 0, none⟩ = false := (by first | (refine kc hb ?_; go_simp; done) | (refine kfz hb ?_ ?_ <;> first | (go_size; done) | (go_simp; done))); have ahp_1 : wz.cell? ⟨w.heap.size + 1 + 1, 1, none⟩ = some (.int .u8 0) := (by first | (refine kc hb ?_; go_simp; done) | (refine kfz hb ?_ ?_ <;> first | (go_size; done) | (go_simp; done))); have afp_1 : wz.frozen? ⟨w.heap.size + 1 + 1, 1, none⟩ = false := (by first | (refine kc hb ?_; go_simp; done) | (refine kfz hb ?_ ?_ <;> first | (go_size; done) | (go_simp; done))); have ahq_0 : wz.cell? ⟨w.heap.size + 1 + 1 + 1, 0, none⟩ = some (.bool false) := (by first | (refine kc hb ?_; go_simp; done) | (refine kfz hb ?_ ?_ <;> first | (go_size; done) | (go_simp; done))); have afq_0 : wz.frozen? ⟨w.heap.size + 1 + 1 + 1, 0, none⟩ = false := (by first | (refine kc hb ?_; go_simp; done) | (refine kfz hb ?_ ?_ <;> first | (go_size; done) | (go_simp; done))); have ahq_1 : wz.cell? ⟨w.heap.size + 1 + 1 + 1, 1, none⟩ = some (.bool false) := (by first | (refine kc hb ?_; go_simp; done) | (refine kfz hb ?_ ?_ <;> first | (go_size; done) | (go_simp; done))); have afq_1 : wz.frozen? ⟨w.heap.size + 1 + 1 + 1, 1, none⟩ = false := (by first | (refine kc hb ?_; go_simp; done) | (refine kfz hb ?_ ?_ <;> first | (go_size; done) | (go_simp; done))))))
  have hh := ‹_ ∧ _›; have hBe := hh.2.2.2.2.2.2.2.2.2.2.2.2.2.2.2.2.2.2
  go_wp2
  refine bodyPost_ret (v := .tuple #[TB _ _, TBit _ _]) (by simp [results, Try.results19, go_sem, ahp_0, ahp_1, ahq_0, ahq_1]) rfl ⟨rfl, by go_grown⟩
end Go.Proofs.Ytbbiegbfoimcaaa
