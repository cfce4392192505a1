/-
  What the document's answer of layer 1 comes to: Put.
-/
import Derived.Test.YtdpoonmgailonaaDoorRef4
import Derived.Test.YtdpoonmgailonaaDoorRef5
set_option linter.unusedSimpArgs false
set_option linter.unusedVariables false
namespace Go.Proofs.YtdpoonmgailonaaDoor
open Go.RowKit

theorem sel_put0 (x : BitVec 8) (v : Bool) : mk8 (sel v (bitAt x 1) (bitAt x 2) (bitAt x 3) (bitAt x 4) (bitAt x 5) (bitAt x 6) (bitAt x 7)) = setB x 0 v := by
  refine sel_eq ?_ ?_ ?_ ?_ ?_ ?_ ?_ ?_ <;> rw [setB_bit _ _ _ _ (by omega) (by omega)] <;> simp [bitAt]
theorem made_put0 (x t : BitVec 8) (v s : Bool) (w : World) : Calls Tryd.prog 28 #[.agg #[.bool v, .bool s, .bool (bitAt x 1), .bool (bitAt t 1), .bool (bitAt x 2), .bool (bitAt t 2), .bool (bitAt x 3), .bool (bitAt t 3), .bool (bitAt x 4), .bool (bitAt t 4), .bool (bitAt x 5), .bool (bitAt t 5), .bool (bitAt x 6), .bool (bitAt t 6), .bool (bitAt x 7), .bool (bitAt t 7)]] w
    fun e w' => e = .returned (TB (setB x 0 v) (setB t 0 s)) ∧ Below w.heap.size w w' := by
  have h := made_l v (bitAt x 1) (bitAt x 2) (bitAt x 3) (bitAt x 4) (bitAt x 5) (bitAt x 6) (bitAt x 7) s (bitAt t 1) (bitAt t 2) (bitAt t 3) (bitAt t 4) (bitAt t 5) (bitAt t 6) (bitAt t 7) w
  rw [sel_put0, sel_put0] at h
  exact h
theorem sel_put1 (x : BitVec 8) (v : Bool) : mk8 (sel (bitAt x 0) v (bitAt x 2) (bitAt x 3) (bitAt x 4) (bitAt x 5) (bitAt x 6) (bitAt x 7)) = setB x 1 v := by
  refine sel_eq ?_ ?_ ?_ ?_ ?_ ?_ ?_ ?_ <;> rw [setB_bit _ _ _ _ (by omega) (by omega)] <;> simp [bitAt]
theorem made_put1 (x t : BitVec 8) (v s : Bool) (w : World) : Calls Tryd.prog 28 #[.agg #[.bool (bitAt x 0), .bool (bitAt t 0), .bool v, .bool s, .bool (bitAt x 2), .bool (bitAt t 2), .bool (bitAt x 3), .bool (bitAt t 3), .bool (bitAt x 4), .bool (bitAt t 4), .bool (bitAt x 5), .bool (bitAt t 5), .bool (bitAt x 6), .bool (bitAt t 6), .bool (bitAt x 7), .bool (bitAt t 7)]] w
    fun e w' => e = .returned (TB (setB x 1 v) (setB t 1 s)) ∧ Below w.heap.size w w' := by
  have h := made_l (bitAt x 0) v (bitAt x 2) (bitAt x 3) (bitAt x 4) (bitAt x 5) (bitAt x 6) (bitAt x 7) (bitAt t 0) s (bitAt t 2) (bitAt t 3) (bitAt t 4) (bitAt t 5) (bitAt t 6) (bitAt t 7) w
  rw [sel_put1, sel_put1] at h
  exact h
theorem sel_put2 (x : BitVec 8) (v : Bool) : mk8 (sel (bitAt x 0) (bitAt x 1) v (bitAt x 3) (bitAt x 4) (bitAt x 5) (bitAt x 6) (bitAt x 7)) = setB x 2 v := by
  refine sel_eq ?_ ?_ ?_ ?_ ?_ ?_ ?_ ?_ <;> rw [setB_bit _ _ _ _ (by omega) (by omega)] <;> simp [bitAt]
theorem made_put2 (x t : BitVec 8) (v s : Bool) (w : World) : Calls Tryd.prog 28 #[.agg #[.bool (bitAt x 0), .bool (bitAt t 0), .bool (bitAt x 1), .bool (bitAt t 1), .bool v, .bool s, .bool (bitAt x 3), .bool (bitAt t 3), .bool (bitAt x 4), .bool (bitAt t 4), .bool (bitAt x 5), .bool (bitAt t 5), .bool (bitAt x 6), .bool (bitAt t 6), .bool (bitAt x 7), .bool (bitAt t 7)]] w
    fun e w' => e = .returned (TB (setB x 2 v) (setB t 2 s)) ∧ Below w.heap.size w w' := by
  have h := made_l (bitAt x 0) (bitAt x 1) v (bitAt x 3) (bitAt x 4) (bitAt x 5) (bitAt x 6) (bitAt x 7) (bitAt t 0) (bitAt t 1) s (bitAt t 3) (bitAt t 4) (bitAt t 5) (bitAt t 6) (bitAt t 7) w
  rw [sel_put2, sel_put2] at h
  exact h
theorem sel_put3 (x : BitVec 8) (v : Bool) : mk8 (sel (bitAt x 0) (bitAt x 1) (bitAt x 2) v (bitAt x 4) (bitAt x 5) (bitAt x 6) (bitAt x 7)) = setB x 3 v := by
  refine sel_eq ?_ ?_ ?_ ?_ ?_ ?_ ?_ ?_ <;> rw [setB_bit _ _ _ _ (by omega) (by omega)] <;> simp [bitAt]
theorem made_put3 (x t : BitVec 8) (v s : Bool) (w : World) : Calls Tryd.prog 28 #[.agg #[.bool (bitAt x 0), .bool (bitAt t 0), .bool (bitAt x 1), .bool (bitAt t 1), .bool (bitAt x 2), .bool (bitAt t 2), .bool v, .bool s, .bool (bitAt x 4), .bool (bitAt t 4), .bool (bitAt x 5), .bool (bitAt t 5), .bool (bitAt x 6), .bool (bitAt t 6), .bool (bitAt x 7), .bool (bitAt t 7)]] w
    fun e w' => e = .returned (TB (setB x 3 v) (setB t 3 s)) ∧ Below w.heap.size w w' := by
  have h := made_l (bitAt x 0) (bitAt x 1) (bitAt x 2) v (bitAt x 4) (bitAt x 5) (bitAt x 6) (bitAt x 7) (bitAt t 0) (bitAt t 1) (bitAt t 2) s (bitAt t 4) (bitAt t 5) (bitAt t 6) (bitAt t 7) w
  rw [sel_put3, sel_put3] at h
  exact h
theorem sel_put4 (x : BitVec 8) (v : Bool) : mk8 (sel (bitAt x 0) (bitAt x 1) (bitAt x 2) (bitAt x 3) v (bitAt x 5) (bitAt x 6) (bitAt x 7)) = setB x 4 v := by
  refine sel_eq ?_ ?_ ?_ ?_ ?_ ?_ ?_ ?_ <;> rw [setB_bit _ _ _ _ (by omega) (by omega)] <;> simp [bitAt]
theorem made_put4 (x t : BitVec 8) (v s : Bool) (w : World) : Calls Tryd.prog 28 #[.agg #[.bool (bitAt x 0), .bool (bitAt t 0), .bool (bitAt x 1), .bool (bitAt t 1), .bool (bitAt x 2), .bool (bitAt t 2), .bool (bitAt x 3), .bool (bitAt t 3), .bool v, .bool s, .bool (bitAt x 5), .bool (bitAt t 5), .bool (bitAt x 6), .bool (bitAt t 6), .bool (bitAt x 7), .bool (bitAt t 7)]] w
    fun e w' => e = .returned (TB (setB x 4 v) (setB t 4 s)) ∧ Below w.heap.size w w' := by
  have h := made_l (bitAt x 0) (bitAt x 1) (bitAt x 2) (bitAt x 3) v (bitAt x 5) (bitAt x 6) (bitAt x 7) (bitAt t 0) (bitAt t 1) (bitAt t 2) (bitAt t 3) s (bitAt t 5) (bitAt t 6) (bitAt t 7) w
  rw [sel_put4, sel_put4] at h
  exact h
theorem sel_put5 (x : BitVec 8) (v : Bool) : mk8 (sel (bitAt x 0) (bitAt x 1) (bitAt x 2) (bitAt x 3) (bitAt x 4) v (bitAt x 6) (bitAt x 7)) = setB x 5 v := by
  refine sel_eq ?_ ?_ ?_ ?_ ?_ ?_ ?_ ?_ <;> rw [setB_bit _ _ _ _ (by omega) (by omega)] <;> simp [bitAt]
theorem made_put5 (x t : BitVec 8) (v s : Bool) (w : World) : Calls Tryd.prog 28 #[.agg #[.bool (bitAt x 0), .bool (bitAt t 0), .bool (bitAt x 1), .bool (bitAt t 1), .bool (bitAt x 2), .bool (bitAt t 2), .bool (bitAt x 3), .bool (bitAt t 3), .bool (bitAt x 4), .bool (bitAt t 4), .bool v, .bool s, .bool (bitAt x 6), .bool (bitAt t 6), .bool (bitAt x 7), .bool (bitAt t 7)]] w
    fun e w' => e = .returned (TB (setB x 5 v) (setB t 5 s)) ∧ Below w.heap.size w w' := by
  have h := made_l (bitAt x 0) (bitAt x 1) (bitAt x 2) (bitAt x 3) (bitAt x 4) v (bitAt x 6) (bitAt x 7) (bitAt t 0) (bitAt t 1) (bitAt t 2) (bitAt t 3) (bitAt t 4) s (bitAt t 6) (bitAt t 7) w
  rw [sel_put5, sel_put5] at h
  exact h
theorem sel_put6 (x : BitVec 8) (v : Bool) : mk8 (sel (bitAt x 0) (bitAt x 1) (bitAt x 2) (bitAt x 3) (bitAt x 4) (bitAt x 5) v (bitAt x 7)) = setB x 6 v := by
  refine sel_eq ?_ ?_ ?_ ?_ ?_ ?_ ?_ ?_ <;> rw [setB_bit _ _ _ _ (by omega) (by omega)] <;> simp [bitAt]
theorem made_put6 (x t : BitVec 8) (v s : Bool) (w : World) : Calls Tryd.prog 28 #[.agg #[.bool (bitAt x 0), .bool (bitAt t 0), .bool (bitAt x 1), .bool (bitAt t 1), .bool (bitAt x 2), .bool (bitAt t 2), .bool (bitAt x 3), .bool (bitAt t 3), .bool (bitAt x 4), .bool (bitAt t 4), .bool (bitAt x 5), .bool (bitAt t 5), .bool v, .bool s, .bool (bitAt x 7), .bool (bitAt t 7)]] w
    fun e w' => e = .returned (TB (setB x 6 v) (setB t 6 s)) ∧ Below w.heap.size w w' := by
  have h := made_l (bitAt x 0) (bitAt x 1) (bitAt x 2) (bitAt x 3) (bitAt x 4) (bitAt x 5) v (bitAt x 7) (bitAt t 0) (bitAt t 1) (bitAt t 2) (bitAt t 3) (bitAt t 4) (bitAt t 5) s (bitAt t 7) w
  rw [sel_put6, sel_put6] at h
  exact h
theorem sel_put7 (x : BitVec 8) (v : Bool) : mk8 (sel (bitAt x 0) (bitAt x 1) (bitAt x 2) (bitAt x 3) (bitAt x 4) (bitAt x 5) (bitAt x 6) v) = setB x 7 v := by
  refine sel_eq ?_ ?_ ?_ ?_ ?_ ?_ ?_ ?_ <;> rw [setB_bit _ _ _ _ (by omega) (by omega)] <;> simp [bitAt]
theorem made_put7 (x t : BitVec 8) (v s : Bool) (w : World) : Calls Tryd.prog 28 #[.agg #[.bool (bitAt x 0), .bool (bitAt t 0), .bool (bitAt x 1), .bool (bitAt t 1), .bool (bitAt x 2), .bool (bitAt t 2), .bool (bitAt x 3), .bool (bitAt t 3), .bool (bitAt x 4), .bool (bitAt t 4), .bool (bitAt x 5), .bool (bitAt t 5), .bool (bitAt x 6), .bool (bitAt t 6), .bool v, .bool s]] w
    fun e w' => e = .returned (TB (setB x 7 v) (setB t 7 s)) ∧ Below w.heap.size w w' := by
  have h := made_l (bitAt x 0) (bitAt x 1) (bitAt x 2) (bitAt x 3) (bitAt x 4) (bitAt x 5) (bitAt x 6) v (bitAt t 0) (bitAt t 1) (bitAt t 2) (bitAt t 3) (bitAt t 4) (bitAt t 5) (bitAt t 6) s w
  rw [sel_put7, sel_put7] at h
  exact h
theorem made_put (x t : BitVec 8) (w : World) : Calls Tryd.prog 28 #[.agg #[.bool (bitAt x 0), .bool (bitAt t 0), .bool (bitAt x 1), .bool (bitAt t 1), .bool (bitAt x 2), .bool (bitAt t 2), .bool (bitAt x 3), .bool (bitAt t 3), .bool (bitAt x 4), .bool (bitAt t 4), .bool (bitAt x 5), .bool (bitAt t 5), .bool (bitAt x 6), .bool (bitAt t 6), .bool (bitAt x 7), .bool (bitAt t 7)]] w
    fun e w' => e = .returned (TB x t) ∧ Below w.heap.size w w' := by
  have h := made_l (bitAt x 0) (bitAt x 1) (bitAt x 2) (bitAt x 3) (bitAt x 4) (bitAt x 5) (bitAt x 6) (bitAt x 7) (bitAt t 0) (bitAt t 1) (bitAt t 2) (bitAt t 3) (bitAt t 4) (bitAt t 5) (bitAt t 6) (bitAt t 7) w
  rw [sel_self, sel_self] at h
  exact h

set_option maxRecDepth 100000 in
set_option maxHeartbeats 1000000 in
theorem put_r0 (x t : BitVec 8) (v s : Bool) (w : World) : Calls Tryd.prog 11 #[TB x t, .int .i64 0, TBit v s] w fun e w' => e = .returned (TB (setB x 0 v) (setB t 0 s)) ∧ Below w.heap.size w w' := by
  go_enter Tryd.func11, Tryd.ntmps11
  go_wp2_with fail
  ((with_reducible refine (bits_r x t _).mono ?_); rintro _ w1 ⟨rfl, hb⟩)
  have T : w1.cell? ⟨w.heap.size + 1, 0, none⟩ = some (.bool v) ∧ w1.cell? ⟨w.heap.size + 1, 1, none⟩ = some (.bool s) ∧ w1.cell? ⟨w.heap.size + 1 + 1, 0, none⟩ = some (.int .u8 0) ∧ w1.frozen? ⟨w.heap.size + 1 + 1, 0, none⟩ = false ∧ w1.cell? ⟨w.heap.size + 1 + 1, 1, none⟩ = some (.int .u8 0) ∧ w1.frozen? ⟨w.heap.size + 1 + 1, 1, none⟩ = false := by
      refine ⟨?_, ?_, ?_, ?_, ?_, ?_⟩ <;> first | (refine kc hb ?_ <;> (go_simp; first | done | rfl)) | (refine kfz hb ?_ ?_ <;> first | (go_size; done) | (go_simp; done))
  have hz := hb.size
  (try simp only [World.size_alloc, World.size_setCell, World.size_drew] at hz)
  have hlb' : w.heap.size + 1 < w1.heap.size := by omega
  have hlp' : w.heap.size + 1 + 1 < w1.heap.size := by omega
  have hB' : Below w.heap.size w w1 := by
      refine kb ?_ hb
      go_grown
  clear hb hz
  obtain ⟨hb_0, hb_1, hp_0, fp_0, hp_1, fp_1⟩ := T
  have hlb := hlb'; clear hlb'
  have hlp := hlp'; clear hlp'
  have hnb0 : ¬ (w.heap.size + 1 = w1.heap.size) := by omega
  have hnb1 : ¬ (w.heap.size = w1.heap.size) := by omega
  have hkb1 : w.heap.size < w1.heap.size := by omega
  have hnb2 : ¬ (w.heap.size = w1.heap.size + 1) := by omega
  have hkb2 : w.heap.size < w1.heap.size + 1 := by omega
  have hnp0 : ¬ (w.heap.size + 1 + 1 = w1.heap.size) := by omega
  have hkp1 : w.heap.size + 1 < w1.heap.size := by omega
  have hB := hB'; clear hB'
  have hsz := hB.size
  go_wp2_with fail
  ((with_reducible refine (made_put0 _ _ _ _ _).mono ?_); rintro _ w2 ⟨rfl, hb⟩)
  have T : w2.cell? ⟨w.heap.size + 1 + 1, 0, none⟩ = some (.int .u8 0) ∧ w2.frozen? ⟨w.heap.size + 1 + 1, 0, none⟩ = false ∧ w2.cell? ⟨w.heap.size + 1 + 1, 1, none⟩ = some (.int .u8 0) ∧ w2.frozen? ⟨w.heap.size + 1 + 1, 1, none⟩ = false := by
      refine ⟨?_, ?_, ?_, ?_⟩ <;> first | (refine kc hb ?_ <;> (go_simp; first | done | rfl)) | (refine kfz hb ?_ ?_ <;> first | (go_size; done) | (go_simp; done))
  have hz := hb.size
  (try simp only [World.size_alloc, World.size_setCell, World.size_drew] at hz)
  have hlp' : w.heap.size + 1 + 1 < w2.heap.size := by omega
  have hB' : Below w.heap.size w w2 := by
      refine kb ?_ hb
      go_grown
  clear hb_0 hb_1 hp_0 fp_0 hp_1 fp_1 hlb hlp hnb0 hnb1 hkb1 hnb2 hkb2 hnp0 hkp1 hB hsz
  clear hb hz
  obtain ⟨hp_0, fp_0, hp_1, fp_1⟩ := T
  have hlp := hlp'; clear hlp'
  have hnp0 : ¬ (w.heap.size + 1 + 1 = w2.heap.size) := by omega
  have hnp1 : ¬ (w.heap.size + 1 = w2.heap.size) := by omega
  have hkp1 : w.heap.size + 1 < w2.heap.size := by omega
  have hnp2 : ¬ (w.heap.size = w2.heap.size) := by omega
  have hkp2 : w.heap.size < w2.heap.size := by omega
  have hB := hB'; clear hB'
  have hsz := hB.size
  go_wp2
  refine bodyPost_ret (v := TB _ _) (by simp [results, Tryd.results11, go_sem, hp_0, hp_1] <;> first | done | rfl | exact dec_eq Iff.rfl) rfl ⟨rfl, by go_grown⟩

set_option maxRecDepth 100000 in
set_option maxHeartbeats 1000000 in
theorem put_r1 (x t : BitVec 8) (v s : Bool) (w : World) : Calls Tryd.prog 11 #[TB x t, .int .i64 1, TBit v s] w fun e w' => e = .returned (TB (setB x 1 v) (setB t 1 s)) ∧ Below w.heap.size w w' := by
  go_enter Tryd.func11, Tryd.ntmps11
  go_wp2_with fail
  ((with_reducible refine (bits_r x t _).mono ?_); rintro _ w1 ⟨rfl, hb⟩)
  have T : w1.cell? ⟨w.heap.size + 1, 0, none⟩ = some (.bool v) ∧ w1.cell? ⟨w.heap.size + 1, 1, none⟩ = some (.bool s) ∧ w1.cell? ⟨w.heap.size + 1 + 1, 0, none⟩ = some (.int .u8 0) ∧ w1.frozen? ⟨w.heap.size + 1 + 1, 0, none⟩ = false ∧ w1.cell? ⟨w.heap.size + 1 + 1, 1, none⟩ = some (.int .u8 0) ∧ w1.frozen? ⟨w.heap.size + 1 + 1, 1, none⟩ = false := by
      refine ⟨?_, ?_, ?_, ?_, ?_, ?_⟩ <;> first | (refine kc hb ?_ <;> (go_simp; first | done | rfl)) | (refine kfz hb ?_ ?_ <;> first | (go_size; done) | (go_simp; done))
  have hz := hb.size
  (try simp only [World.size_alloc, World.size_setCell, World.size_drew] at hz)
  have hlb' : w.heap.size + 1 < w1.heap.size := by omega
  have hlp' : w.heap.size + 1 + 1 < w1.heap.size := by omega
  have hB' : Below w.heap.size w w1 := by
      refine kb ?_ hb
      go_grown
  clear hb hz
  obtain ⟨hb_0, hb_1, hp_0, fp_0, hp_1, fp_1⟩ := T
  have hlb := hlb'; clear hlb'
  have hlp := hlp'; clear hlp'
  have hnb0 : ¬ (w.heap.size + 1 = w1.heap.size) := by omega
  have hnb1 : ¬ (w.heap.size = w1.heap.size) := by omega
  have hkb1 : w.heap.size < w1.heap.size := by omega
  have hnb2 : ¬ (w.heap.size = w1.heap.size + 1) := by omega
  have hkb2 : w.heap.size < w1.heap.size + 1 := by omega
  have hnp0 : ¬ (w.heap.size + 1 + 1 = w1.heap.size) := by omega
  have hkp1 : w.heap.size + 1 < w1.heap.size := by omega
  have hB := hB'; clear hB'
  have hsz := hB.size
  go_wp2_with fail
  ((with_reducible refine (made_put1 _ _ _ _ _).mono ?_); rintro _ w2 ⟨rfl, hb⟩)
  have T : w2.cell? ⟨w.heap.size + 1 + 1, 0, none⟩ = some (.int .u8 0) ∧ w2.frozen? ⟨w.heap.size + 1 + 1, 0, none⟩ = false ∧ w2.cell? ⟨w.heap.size + 1 + 1, 1, none⟩ = some (.int .u8 0) ∧ w2.frozen? ⟨w.heap.size + 1 + 1, 1, none⟩ = false := by
      refine ⟨?_, ?_, ?_, ?_⟩ <;> first | (refine kc hb ?_ <;> (go_simp; first | done | rfl)) | (refine kfz hb ?_ ?_ <;> first | (go_size; done) | (go_simp; done))
  have hz := hb.size
  (try simp only [World.size_alloc, World.size_setCell, World.size_drew] at hz)
  have hlp' : w.heap.size + 1 + 1 < w2.heap.size := by omega
  have hB' : Below w.heap.size w w2 := by
      refine kb ?_ hb
      go_grown
  clear hb_0 hb_1 hp_0 fp_0 hp_1 fp_1 hlb hlp hnb0 hnb1 hkb1 hnb2 hkb2 hnp0 hkp1 hB hsz
  clear hb hz
  obtain ⟨hp_0, fp_0, hp_1, fp_1⟩ := T
  have hlp := hlp'; clear hlp'
  have hnp0 : ¬ (w.heap.size + 1 + 1 = w2.heap.size) := by omega
  have hnp1 : ¬ (w.heap.size + 1 = w2.heap.size) := by omega
  have hkp1 : w.heap.size + 1 < w2.heap.size := by omega
  have hnp2 : ¬ (w.heap.size = w2.heap.size) := by omega
  have hkp2 : w.heap.size < w2.heap.size := by omega
  have hB := hB'; clear hB'
  have hsz := hB.size
  go_wp2
  refine bodyPost_ret (v := TB _ _) (by simp [results, Tryd.results11, go_sem, hp_0, hp_1] <;> first | done | rfl | exact dec_eq Iff.rfl) rfl ⟨rfl, by go_grown⟩

set_option maxRecDepth 100000 in
set_option maxHeartbeats 1000000 in
theorem put_r2 (x t : BitVec 8) (v s : Bool) (w : World) : Calls Tryd.prog 11 #[TB x t, .int .i64 2, TBit v s] w fun e w' => e = .returned (TB (setB x 2 v) (setB t 2 s)) ∧ Below w.heap.size w w' := by
  go_enter Tryd.func11, Tryd.ntmps11
  go_wp2_with fail
  ((with_reducible refine (bits_r x t _).mono ?_); rintro _ w1 ⟨rfl, hb⟩)
  have T : w1.cell? ⟨w.heap.size + 1, 0, none⟩ = some (.bool v) ∧ w1.cell? ⟨w.heap.size + 1, 1, none⟩ = some (.bool s) ∧ w1.cell? ⟨w.heap.size + 1 + 1, 0, none⟩ = some (.int .u8 0) ∧ w1.frozen? ⟨w.heap.size + 1 + 1, 0, none⟩ = false ∧ w1.cell? ⟨w.heap.size + 1 + 1, 1, none⟩ = some (.int .u8 0) ∧ w1.frozen? ⟨w.heap.size + 1 + 1, 1, none⟩ = false := by
      refine ⟨?_, ?_, ?_, ?_, ?_, ?_⟩ <;> first | (refine kc hb ?_ <;> (go_simp; first | done | rfl)) | (refine kfz hb ?_ ?_ <;> first | (go_size; done) | (go_simp; done))
  have hz := hb.size
  (try simp only [World.size_alloc, World.size_setCell, World.size_drew] at hz)
  have hlb' : w.heap.size + 1 < w1.heap.size := by omega
  have hlp' : w.heap.size + 1 + 1 < w1.heap.size := by omega
  have hB' : Below w.heap.size w w1 := by
      refine kb ?_ hb
      go_grown
  clear hb hz
  obtain ⟨hb_0, hb_1, hp_0, fp_0, hp_1, fp_1⟩ := T
  have hlb := hlb'; clear hlb'
  have hlp := hlp'; clear hlp'
  have hnb0 : ¬ (w.heap.size + 1 = w1.heap.size) := by omega
  have hnb1 : ¬ (w.heap.size = w1.heap.size) := by omega
  have hkb1 : w.heap.size < w1.heap.size := by omega
  have hnb2 : ¬ (w.heap.size = w1.heap.size + 1) := by omega
  have hkb2 : w.heap.size < w1.heap.size + 1 := by omega
  have hnp0 : ¬ (w.heap.size + 1 + 1 = w1.heap.size) := by omega
  have hkp1 : w.heap.size + 1 < w1.heap.size := by omega
  have hB := hB'; clear hB'
  have hsz := hB.size
  go_wp2_with fail
  ((with_reducible refine (made_put2 _ _ _ _ _).mono ?_); rintro _ w2 ⟨rfl, hb⟩)
  have T : w2.cell? ⟨w.heap.size + 1 + 1, 0, none⟩ = some (.int .u8 0) ∧ w2.frozen? ⟨w.heap.size + 1 + 1, 0, none⟩ = false ∧ w2.cell? ⟨w.heap.size + 1 + 1, 1, none⟩ = some (.int .u8 0) ∧ w2.frozen? ⟨w.heap.size + 1 + 1, 1, none⟩ = false := by
      refine ⟨?_, ?_, ?_, ?_⟩ <;> first | (refine kc hb ?_ <;> (go_simp; first | done | rfl)) | (refine kfz hb ?_ ?_ <;> first | (go_size; done) | (go_simp; done))
  have hz := hb.size
  (try simp only [World.size_alloc, World.size_setCell, World.size_drew] at hz)
  have hlp' : w.heap.size + 1 + 1 < w2.heap.size := by omega
  have hB' : Below w.heap.size w w2 := by
      refine kb ?_ hb
      go_grown
  clear hb_0 hb_1 hp_0 fp_0 hp_1 fp_1 hlb hlp hnb0 hnb1 hkb1 hnb2 hkb2 hnp0 hkp1 hB hsz
  clear hb hz
  obtain ⟨hp_0, fp_0, hp_1, fp_1⟩ := T
  have hlp := hlp'; clear hlp'
  have hnp0 : ¬ (w.heap.size + 1 + 1 = w2.heap.size) := by omega
  have hnp1 : ¬ (w.heap.size + 1 = w2.heap.size) := by omega
  have hkp1 : w.heap.size + 1 < w2.heap.size := by omega
  have hnp2 : ¬ (w.heap.size = w2.heap.size) := by omega
  have hkp2 : w.heap.size < w2.heap.size := by omega
  have hB := hB'; clear hB'
  have hsz := hB.size
  go_wp2
  refine bodyPost_ret (v := TB _ _) (by simp [results, Tryd.results11, go_sem, hp_0, hp_1] <;> first | done | rfl | exact dec_eq Iff.rfl) rfl ⟨rfl, by go_grown⟩

set_option maxRecDepth 100000 in
set_option maxHeartbeats 1000000 in
theorem put_r3 (x t : BitVec 8) (v s : Bool) (w : World) : Calls Tryd.prog 11 #[TB x t, .int .i64 3, TBit v s] w fun e w' => e = .returned (TB (setB x 3 v) (setB t 3 s)) ∧ Below w.heap.size w w' := by
  go_enter Tryd.func11, Tryd.ntmps11
  go_wp2_with fail
  ((with_reducible refine (bits_r x t _).mono ?_); rintro _ w1 ⟨rfl, hb⟩)
  have T : w1.cell? ⟨w.heap.size + 1, 0, none⟩ = some (.bool v) ∧ w1.cell? ⟨w.heap.size + 1, 1, none⟩ = some (.bool s) ∧ w1.cell? ⟨w.heap.size + 1 + 1, 0, none⟩ = some (.int .u8 0) ∧ w1.frozen? ⟨w.heap.size + 1 + 1, 0, none⟩ = false ∧ w1.cell? ⟨w.heap.size + 1 + 1, 1, none⟩ = some (.int .u8 0) ∧ w1.frozen? ⟨w.heap.size + 1 + 1, 1, none⟩ = false := by
      refine ⟨?_, ?_, ?_, ?_, ?_, ?_⟩ <;> first | (refine kc hb ?_ <;> (go_simp; first | done | rfl)) | (refine kfz hb ?_ ?_ <;> first | (go_size; done) | (go_simp; done))
  have hz := hb.size
  (try simp only [World.size_alloc, World.size_setCell, World.size_drew] at hz)
  have hlb' : w.heap.size + 1 < w1.heap.size := by omega
  have hlp' : w.heap.size + 1 + 1 < w1.heap.size := by omega
  have hB' : Below w.heap.size w w1 := by
      refine kb ?_ hb
      go_grown
  clear hb hz
  obtain ⟨hb_0, hb_1, hp_0, fp_0, hp_1, fp_1⟩ := T
  have hlb := hlb'; clear hlb'
  have hlp := hlp'; clear hlp'
  have hnb0 : ¬ (w.heap.size + 1 = w1.heap.size) := by omega
  have hnb1 : ¬ (w.heap.size = w1.heap.size) := by omega
  have hkb1 : w.heap.size < w1.heap.size := by omega
  have hnb2 : ¬ (w.heap.size = w1.heap.size + 1) := by omega
  have hkb2 : w.heap.size < w1.heap.size + 1 := by omega
  have hnp0 : ¬ (w.heap.size + 1 + 1 = w1.heap.size) := by omega
  have hkp1 : w.heap.size + 1 < w1.heap.size := by omega
  have hB := hB'; clear hB'
  have hsz := hB.size
  go_wp2_with fail
  ((with_reducible refine (made_put3 _ _ _ _ _).mono ?_); rintro _ w2 ⟨rfl, hb⟩)
  have T : w2.cell? ⟨w.heap.size + 1 + 1, 0, none⟩ = some (.int .u8 0) ∧ w2.frozen? ⟨w.heap.size + 1 + 1, 0, none⟩ = false ∧ w2.cell? ⟨w.heap.size + 1 + 1, 1, none⟩ = some (.int .u8 0) ∧ w2.frozen? ⟨w.heap.size + 1 + 1, 1, none⟩ = false := by
      refine ⟨?_, ?_, ?_, ?_⟩ <;> first | (refine kc hb ?_ <;> (go_simp; first | done | rfl)) | (refine kfz hb ?_ ?_ <;> first | (go_size; done) | (go_simp; done))
  have hz := hb.size
  (try simp only [World.size_alloc, World.size_setCell, World.size_drew] at hz)
  have hlp' : w.heap.size + 1 + 1 < w2.heap.size := by omega
  have hB' : Below w.heap.size w w2 := by
      refine kb ?_ hb
      go_grown
  clear hb_0 hb_1 hp_0 fp_0 hp_1 fp_1 hlb hlp hnb0 hnb1 hkb1 hnb2 hkb2 hnp0 hkp1 hB hsz
  clear hb hz
  obtain ⟨hp_0, fp_0, hp_1, fp_1⟩ := T
  have hlp := hlp'; clear hlp'
  have hnp0 : ¬ (w.heap.size + 1 + 1 = w2.heap.size) := by omega
  have hnp1 : ¬ (w.heap.size + 1 = w2.heap.size) := by omega
  have hkp1 : w.heap.size + 1 < w2.heap.size := by omega
  have hnp2 : ¬ (w.heap.size = w2.heap.size) := by omega
  have hkp2 : w.heap.size < w2.heap.size := by omega
  have hB := hB'; clear hB'
  have hsz := hB.size
  go_wp2
  refine bodyPost_ret (v := TB _ _) (by simp [results, Tryd.results11, go_sem, hp_0, hp_1] <;> first | done | rfl | exact dec_eq Iff.rfl) rfl ⟨rfl, by go_grown⟩

set_option maxRecDepth 100000 in
set_option maxHeartbeats 1000000 in
theorem put_r4 (x t : BitVec 8) (v s : Bool) (w : World) : Calls Tryd.prog 11 #[TB x t, .int .i64 4, TBit v s] w fun e w' => e = .returned (TB (setB x 4 v) (setB t 4 s)) ∧ Below w.heap.size w w' := by
  go_enter Tryd.func11, Tryd.ntmps11
  go_wp2_with fail
  ((with_reducible refine (bits_r x t _).mono ?_); rintro _ w1 ⟨rfl, hb⟩)
  have T : w1.cell? ⟨w.heap.size + 1, 0, none⟩ = some (.bool v) ∧ w1.cell? ⟨w.heap.size + 1, 1, none⟩ = some (.bool s) ∧ w1.cell? ⟨w.heap.size + 1 + 1, 0, none⟩ = some (.int .u8 0) ∧ w1.frozen? ⟨w.heap.size + 1 + 1, 0, none⟩ = false ∧ w1.cell? ⟨w.heap.size + 1 + 1, 1, none⟩ = some (.int .u8 0) ∧ w1.frozen? ⟨w.heap.size + 1 + 1, 1, none⟩ = false := by
      refine ⟨?_, ?_, ?_, ?_, ?_, ?_⟩ <;> first | (refine kc hb ?_ <;> (go_simp; first | done | rfl)) | (refine kfz hb ?_ ?_ <;> first | (go_size; done) | (go_simp; done))
  have hz := hb.size
  (try simp only [World.size_alloc, World.size_setCell, World.size_drew] at hz)
  have hlb' : w.heap.size + 1 < w1.heap.size := by omega
  have hlp' : w.heap.size + 1 + 1 < w1.heap.size := by omega
  have hB' : Below w.heap.size w w1 := by
      refine kb ?_ hb
      go_grown
  clear hb hz
  obtain ⟨hb_0, hb_1, hp_0, fp_0, hp_1, fp_1⟩ := T
  have hlb := hlb'; clear hlb'
  have hlp := hlp'; clear hlp'
  have hnb0 : ¬ (w.heap.size + 1 = w1.heap.size) := by omega
  have hnb1 : ¬ (w.heap.size = w1.heap.size) := by omega
  have hkb1 : w.heap.size < w1.heap.size := by omega
  have hnb2 : ¬ (w.heap.size = w1.heap.size + 1) := by omega
  have hkb2 : w.heap.size < w1.heap.size + 1 := by omega
  have hnp0 : ¬ (w.heap.size + 1 + 1 = w1.heap.size) := by omega
  have hkp1 : w.heap.size + 1 < w1.heap.size := by omega
  have hB := hB'; clear hB'
  have hsz := hB.size
  go_wp2_with fail
  ((with_reducible refine (made_put4 _ _ _ _ _).mono ?_); rintro _ w2 ⟨rfl, hb⟩)
  have T : w2.cell? ⟨w.heap.size + 1 + 1, 0, none⟩ = some (.int .u8 0) ∧ w2.frozen? ⟨w.heap.size + 1 + 1, 0, none⟩ = false ∧ w2.cell? ⟨w.heap.size + 1 + 1, 1, none⟩ = some (.int .u8 0) ∧ w2.frozen? ⟨w.heap.size + 1 + 1, 1, none⟩ = false := by
      refine ⟨?_, ?_, ?_, ?_⟩ <;> first | (refine kc hb ?_ <;> (go_simp; first | done | rfl)) | (refine kfz hb ?_ ?_ <;> first | (go_size; done) | (go_simp; done))
  have hz := hb.size
  (try simp only [World.size_alloc, World.size_setCell, World.size_drew] at hz)
  have hlp' : w.heap.size + 1 + 1 < w2.heap.size := by omega
  have hB' : Below w.heap.size w w2 := by
      refine kb ?_ hb
      go_grown
  clear hb_0 hb_1 hp_0 fp_0 hp_1 fp_1 hlb hlp hnb0 hnb1 hkb1 hnb2 hkb2 hnp0 hkp1 hB hsz
  clear hb hz
  obtain ⟨hp_0, fp_0, hp_1, fp_1⟩ := T
  have hlp := hlp'; clear hlp'
  have hnp0 : ¬ (w.heap.size + 1 + 1 = w2.heap.size) := by omega
  have hnp1 : ¬ (w.heap.size + 1 = w2.heap.size) := by omega
  have hkp1 : w.heap.size + 1 < w2.heap.size := by omega
  have hnp2 : ¬ (w.heap.size = w2.heap.size) := by omega
  have hkp2 : w.heap.size < w2.heap.size := by omega
  have hB := hB'; clear hB'
  have hsz := hB.size
  go_wp2
  refine bodyPost_ret (v := TB _ _) (by simp [results, Tryd.results11, go_sem, hp_0, hp_1] <;> first | done | rfl | exact dec_eq Iff.rfl) rfl ⟨rfl, by go_grown⟩

set_option maxRecDepth 100000 in
set_option maxHeartbeats 1000000 in
theorem put_r5 (x t : BitVec 8) (v s : Bool) (w : World) : Calls Tryd.prog 11 #[TB x t, .int .i64 5, TBit v s] w fun e w' => e = .returned (TB (setB x 5 v) (setB t 5 s)) ∧ Below w.heap.size w w' := by
  go_enter Tryd.func11, Tryd.ntmps11
  go_wp2_with fail
  ((with_reducible refine (bits_r x t _).mono ?_); rintro _ w1 ⟨rfl, hb⟩)
  have T : w1.cell? ⟨w.heap.size + 1, 0, none⟩ = some (.bool v) ∧ w1.cell? ⟨w.heap.size + 1, 1, none⟩ = some (.bool s) ∧ w1.cell? ⟨w.heap.size + 1 + 1, 0, none⟩ = some (.int .u8 0) ∧ w1.frozen? ⟨w.heap.size + 1 + 1, 0, none⟩ = false ∧ w1.cell? ⟨w.heap.size + 1 + 1, 1, none⟩ = some (.int .u8 0) ∧ w1.frozen? ⟨w.heap.size + 1 + 1, 1, none⟩ = false := by
      refine ⟨?_, ?_, ?_, ?_, ?_, ?_⟩ <;> first | (refine kc hb ?_ <;> (go_simp; first | done | rfl)) | (refine kfz hb ?_ ?_ <;> first | (go_size; done) | (go_simp; done))
  have hz := hb.size
  (try simp only [World.size_alloc, World.size_setCell, World.size_drew] at hz)
  have hlb' : w.heap.size + 1 < w1.heap.size := by omega
  have hlp' : w.heap.size + 1 + 1 < w1.heap.size := by omega
  have hB' : Below w.heap.size w w1 := by
      refine kb ?_ hb
      go_grown
  clear hb hz
  obtain ⟨hb_0, hb_1, hp_0, fp_0, hp_1, fp_1⟩ := T
  have hlb := hlb'; clear hlb'
  have hlp := hlp'; clear hlp'
  have hnb0 : ¬ (w.heap.size + 1 = w1.heap.size) := by omega
  have hnb1 : ¬ (w.heap.size = w1.heap.size) := by omega
  have hkb1 : w.heap.size < w1.heap.size := by omega
  have hnb2 : ¬ (w.heap.size = w1.heap.size + 1) := by omega
  have hkb2 : w.heap.size < w1.heap.size + 1 := by omega
  have hnp0 : ¬ (w.heap.size + 1 + 1 = w1.heap.size) := by omega
  have hkp1 : w.heap.size + 1 < w1.heap.size := by omega
  have hB := hB'; clear hB'
  have hsz := hB.size
  go_wp2_with fail
  ((with_reducible refine (made_put5 _ _ _ _ _).mono ?_); rintro _ w2 ⟨rfl, hb⟩)
  have T : w2.cell? ⟨w.heap.size + 1 + 1, 0, none⟩ = some (.int .u8 0) ∧ w2.frozen? ⟨w.heap.size + 1 + 1, 0, none⟩ = false ∧ w2.cell? ⟨w.heap.size + 1 + 1, 1, none⟩ = some (.int .u8 0) ∧ w2.frozen? ⟨w.heap.size + 1 + 1, 1, none⟩ = false := by
      refine ⟨?_, ?_, ?_, ?_⟩ <;> first | (refine kc hb ?_ <;> (go_simp; first | done | rfl)) | (refine kfz hb ?_ ?_ <;> first | (go_size; done) | (go_simp; done))
  have hz := hb.size
  (try simp only [World.size_alloc, World.size_setCell, World.size_drew] at hz)
  have hlp' : w.heap.size + 1 + 1 < w2.heap.size := by omega
  have hB' : Below w.heap.size w w2 := by
      refine kb ?_ hb
      go_grown
  clear hb_0 hb_1 hp_0 fp_0 hp_1 fp_1 hlb hlp hnb0 hnb1 hkb1 hnb2 hkb2 hnp0 hkp1 hB hsz
  clear hb hz
  obtain ⟨hp_0, fp_0, hp_1, fp_1⟩ := T
  have hlp := hlp'; clear hlp'
  have hnp0 : ¬ (w.heap.size + 1 + 1 = w2.heap.size) := by omega
  have hnp1 : ¬ (w.heap.size + 1 = w2.heap.size) := by omega
  have hkp1 : w.heap.size + 1 < w2.heap.size := by omega
  have hnp2 : ¬ (w.heap.size = w2.heap.size) := by omega
  have hkp2 : w.heap.size < w2.heap.size := by omega
  have hB := hB'; clear hB'
  have hsz := hB.size
  go_wp2
  refine bodyPost_ret (v := TB _ _) (by simp [results, Tryd.results11, go_sem, hp_0, hp_1] <;> first | done | rfl | exact dec_eq Iff.rfl) rfl ⟨rfl, by go_grown⟩

set_option maxRecDepth 100000 in
set_option maxHeartbeats 1000000 in
theorem put_r6 (x t : BitVec 8) (v s : Bool) (w : World) : Calls Tryd.prog 11 #[TB x t, .int .i64 6, TBit v s] w fun e w' => e = .returned (TB (setB x 6 v) (setB t 6 s)) ∧ Below w.heap.size w w' := by
  go_enter Tryd.func11, Tryd.ntmps11
  go_wp2_with fail
  ((with_reducible refine (bits_r x t _).mono ?_); rintro _ w1 ⟨rfl, hb⟩)
  have T : w1.cell? ⟨w.heap.size + 1, 0, none⟩ = some (.bool v) ∧ w1.cell? ⟨w.heap.size + 1, 1, none⟩ = some (.bool s) ∧ w1.cell? ⟨w.heap.size + 1 + 1, 0, none⟩ = some (.int .u8 0) ∧ w1.frozen? ⟨w.heap.size + 1 + 1, 0, none⟩ = false ∧ w1.cell? ⟨w.heap.size + 1 + 1, 1, none⟩ = some (.int .u8 0) ∧ w1.frozen? ⟨w.heap.size + 1 + 1, 1, none⟩ = false := by
      refine ⟨?_, ?_, ?_, ?_, ?_, ?_⟩ <;> first | (refine kc hb ?_ <;> (go_simp; first | done | rfl)) | (refine kfz hb ?_ ?_ <;> first | (go_size; done) | (go_simp; done))
  have hz := hb.size
  (try simp only [World.size_alloc, World.size_setCell, World.size_drew] at hz)
  have hlb' : w.heap.size + 1 < w1.heap.size := by omega
  have hlp' : w.heap.size + 1 + 1 < w1.heap.size := by omega
  have hB' : Below w.heap.size w w1 := by
      refine kb ?_ hb
      go_grown
  clear hb hz
  obtain ⟨hb_0, hb_1, hp_0, fp_0, hp_1, fp_1⟩ := T
  have hlb := hlb'; clear hlb'
  have hlp := hlp'; clear hlp'
  have hnb0 : ¬ (w.heap.size + 1 = w1.heap.size) := by omega
  have hnb1 : ¬ (w.heap.size = w1.heap.size) := by omega
  have hkb1 : w.heap.size < w1.heap.size := by omega
  have hnb2 : ¬ (w.heap.size = w1.heap.size + 1) := by omega
  have hkb2 : w.heap.size < w1.heap.size + 1 := by omega
  have hnp0 : ¬ (w.heap.size + 1 + 1 = w1.heap.size) := by omega
  have hkp1 : w.heap.size + 1 < w1.heap.size := by omega
  have hB := hB'; clear hB'
  have hsz := hB.size
  go_wp2_with fail
  ((with_reducible refine (made_put6 _ _ _ _ _).mono ?_); rintro _ w2 ⟨rfl, hb⟩)
  have T : w2.cell? ⟨w.heap.size + 1 + 1, 0, none⟩ = some (.int .u8 0) ∧ w2.frozen? ⟨w.heap.size + 1 + 1, 0, none⟩ = false ∧ w2.cell? ⟨w.heap.size + 1 + 1, 1, none⟩ = some (.int .u8 0) ∧ w2.frozen? ⟨w.heap.size + 1 + 1, 1, none⟩ = false := by
      refine ⟨?_, ?_, ?_, ?_⟩ <;> first | (refine kc hb ?_ <;> (go_simp; first | done | rfl)) | (refine kfz hb ?_ ?_ <;> first | (go_size; done) | (go_simp; done))
  have hz := hb.size
  (try simp only [World.size_alloc, World.size_setCell, World.size_drew] at hz)
  have hlp' : w.heap.size + 1 + 1 < w2.heap.size := by omega
  have hB' : Below w.heap.size w w2 := by
      refine kb ?_ hb
      go_grown
  clear hb_0 hb_1 hp_0 fp_0 hp_1 fp_1 hlb hlp hnb0 hnb1 hkb1 hnb2 hkb2 hnp0 hkp1 hB hsz
  clear hb hz
  obtain ⟨hp_0, fp_0, hp_1, fp_1⟩ := T
  have hlp := hlp'; clear hlp'
  have hnp0 : ¬ (w.heap.size + 1 + 1 = w2.heap.size) := by omega
  have hnp1 : ¬ (w.heap.size + 1 = w2.heap.size) := by omega
  have hkp1 : w.heap.size + 1 < w2.heap.size := by omega
  have hnp2 : ¬ (w.heap.size = w2.heap.size) := by omega
  have hkp2 : w.heap.size < w2.heap.size := by omega
  have hB := hB'; clear hB'
  have hsz := hB.size
  go_wp2
  refine bodyPost_ret (v := TB _ _) (by simp [results, Tryd.results11, go_sem, hp_0, hp_1] <;> first | done | rfl | exact dec_eq Iff.rfl) rfl ⟨rfl, by go_grown⟩

set_option maxRecDepth 100000 in
set_option maxHeartbeats 1000000 in
theorem put_r7 (x t : BitVec 8) (v s : Bool) (w : World) : Calls Tryd.prog 11 #[TB x t, .int .i64 7, TBit v s] w fun e w' => e = .returned (TB (setB x 7 v) (setB t 7 s)) ∧ Below w.heap.size w w' := by
  go_enter Tryd.func11, Tryd.ntmps11
  go_wp2_with fail
  ((with_reducible refine (bits_r x t _).mono ?_); rintro _ w1 ⟨rfl, hb⟩)
  have T : w1.cell? ⟨w.heap.size + 1, 0, none⟩ = some (.bool v) ∧ w1.cell? ⟨w.heap.size + 1, 1, none⟩ = some (.bool s) ∧ w1.cell? ⟨w.heap.size + 1 + 1, 0, none⟩ = some (.int .u8 0) ∧ w1.frozen? ⟨w.heap.size + 1 + 1, 0, none⟩ = false ∧ w1.cell? ⟨w.heap.size + 1 + 1, 1, none⟩ = some (.int .u8 0) ∧ w1.frozen? ⟨w.heap.size + 1 + 1, 1, none⟩ = false := by
      refine ⟨?_, ?_, ?_, ?_, ?_, ?_⟩ <;> first | (refine kc hb ?_ <;> (go_simp; first | done | rfl)) | (refine kfz hb ?_ ?_ <;> first | (go_size; done) | (go_simp; done))
  have hz := hb.size
  (try simp only [World.size_alloc, World.size_setCell, World.size_drew] at hz)
  have hlb' : w.heap.size + 1 < w1.heap.size := by omega
  have hlp' : w.heap.size + 1 + 1 < w1.heap.size := by omega
  have hB' : Below w.heap.size w w1 := by
      refine kb ?_ hb
      go_grown
  clear hb hz
  obtain ⟨hb_0, hb_1, hp_0, fp_0, hp_1, fp_1⟩ := T
  have hlb := hlb'; clear hlb'
  have hlp := hlp'; clear hlp'
  have hnb0 : ¬ (w.heap.size + 1 = w1.heap.size) := by omega
  have hnb1 : ¬ (w.heap.size = w1.heap.size) := by omega
  have hkb1 : w.heap.size < w1.heap.size := by omega
  have hnb2 : ¬ (w.heap.size = w1.heap.size + 1) := by omega
  have hkb2 : w.heap.size < w1.heap.size + 1 := by omega
  have hnp0 : ¬ (w.heap.size + 1 + 1 = w1.heap.size) := by omega
  have hkp1 : w.heap.size + 1 < w1.heap.size := by omega
  have hB := hB'; clear hB'
  have hsz := hB.size
  go_wp2_with fail
  ((with_reducible refine (made_put7 _ _ _ _ _).mono ?_); rintro _ w2 ⟨rfl, hb⟩)
  have T : w2.cell? ⟨w.heap.size + 1 + 1, 0, none⟩ = some (.int .u8 0) ∧ w2.frozen? ⟨w.heap.size + 1 + 1, 0, none⟩ = false ∧ w2.cell? ⟨w.heap.size + 1 + 1, 1, none⟩ = some (.int .u8 0) ∧ w2.frozen? ⟨w.heap.size + 1 + 1, 1, none⟩ = false := by
      refine ⟨?_, ?_, ?_, ?_⟩ <;> first | (refine kc hb ?_ <;> (go_simp; first | done | rfl)) | (refine kfz hb ?_ ?_ <;> first | (go_size; done) | (go_simp; done))
  have hz := hb.size
  (try simp only [World.size_alloc, World.size_setCell, World.size_drew] at hz)
  have hlp' : w.heap.size + 1 + 1 < w2.heap.size := by omega
  have hB' : Below w.heap.size w w2 := by
      refine kb ?_ hb
      go_grown
  clear hb_0 hb_1 hp_0 fp_0 hp_1 fp_1 hlb hlp hnb0 hnb1 hkb1 hnb2 hkb2 hnp0 hkp1 hB hsz
  clear hb hz
  obtain ⟨hp_0, fp_0, hp_1, fp_1⟩ := T
  have hlp := hlp'; clear hlp'
  have hnp0 : ¬ (w.heap.size + 1 + 1 = w2.heap.size) := by omega
  have hnp1 : ¬ (w.heap.size + 1 = w2.heap.size) := by omega
  have hkp1 : w.heap.size + 1 < w2.heap.size := by omega
  have hnp2 : ¬ (w.heap.size = w2.heap.size) := by omega
  have hkp2 : w.heap.size < w2.heap.size := by omega
  have hB := hB'; clear hB'
  have hsz := hB.size
  go_wp2
  refine bodyPost_ret (v := TB _ _) (by simp [results, Tryd.results11, go_sem, hp_0, hp_1] <;> first | done | rfl | exact dec_eq Iff.rfl) rfl ⟨rfl, by go_grown⟩

set_option maxRecDepth 100000 in
set_option maxHeartbeats 1000000 in
theorem put_rl (x t : BitVec 8) (i : Int) (h : i < 0) (v s : Bool) (w : World) : Calls Tryd.prog 11 #[TB x t, .int .i64 i, TBit v s] w fun e w' => e = .returned (TB x t) ∧ Below w.heap.size w w' := by
  go_enter Tryd.func11, Tryd.ntmps11
  go_wp2_with fail
  ((with_reducible refine (bits_r x t _).mono ?_); rintro _ w1 ⟨rfl, hb⟩)
  have T : w1.cell? ⟨w.heap.size + 1, 0, none⟩ = some (.bool v) ∧ w1.cell? ⟨w.heap.size + 1, 1, none⟩ = some (.bool s) ∧ w1.cell? ⟨w.heap.size + 1 + 1, 0, none⟩ = some (.int .u8 0) ∧ w1.frozen? ⟨w.heap.size + 1 + 1, 0, none⟩ = false ∧ w1.cell? ⟨w.heap.size + 1 + 1, 1, none⟩ = some (.int .u8 0) ∧ w1.frozen? ⟨w.heap.size + 1 + 1, 1, none⟩ = false := by
      refine ⟨?_, ?_, ?_, ?_, ?_, ?_⟩ <;> first | (refine kc hb ?_ <;> (go_simp; first | done | rfl)) | (refine kfz hb ?_ ?_ <;> first | (go_size; done) | (go_simp; done))
  have hz := hb.size
  (try simp only [World.size_alloc, World.size_setCell, World.size_drew] at hz)
  have hlb' : w.heap.size + 1 < w1.heap.size := by omega
  have hlp' : w.heap.size + 1 + 1 < w1.heap.size := by omega
  have hB' : Below w.heap.size w w1 := by
      refine kb ?_ hb
      go_grown
  clear hb hz
  obtain ⟨hb_0, hb_1, hp_0, fp_0, hp_1, fp_1⟩ := T
  have hlb := hlb'; clear hlb'
  have hlp := hlp'; clear hlp'
  have hnb0 : ¬ (w.heap.size + 1 = w1.heap.size) := by omega
  have hnb1 : ¬ (w.heap.size = w1.heap.size) := by omega
  have hkb1 : w.heap.size < w1.heap.size := by omega
  have hnb2 : ¬ (w.heap.size = w1.heap.size + 1) := by omega
  have hkb2 : w.heap.size < w1.heap.size + 1 := by omega
  have hnp0 : ¬ (w.heap.size + 1 + 1 = w1.heap.size) := by omega
  have hkp1 : w.heap.size + 1 < w1.heap.size := by omega
  have hB := hB'; clear hB'
  have hsz := hB.size
  go_wp2_with fail
  ((with_reducible refine (made_put _ _ _).mono ?_); rintro _ w2 ⟨rfl, hb⟩)
  have T : w2.cell? ⟨w.heap.size + 1 + 1, 0, none⟩ = some (.int .u8 0) ∧ w2.frozen? ⟨w.heap.size + 1 + 1, 0, none⟩ = false ∧ w2.cell? ⟨w.heap.size + 1 + 1, 1, none⟩ = some (.int .u8 0) ∧ w2.frozen? ⟨w.heap.size + 1 + 1, 1, none⟩ = false := by
      refine ⟨?_, ?_, ?_, ?_⟩ <;> first | (refine kc hb ?_ <;> (go_simp; first | done | rfl)) | (refine kfz hb ?_ ?_ <;> first | (go_size; done) | (go_simp; done))
  have hz := hb.size
  (try simp only [World.size_alloc, World.size_setCell, World.size_drew] at hz)
  have hlp' : w.heap.size + 1 + 1 < w2.heap.size := by omega
  have hB' : Below w.heap.size w w2 := by
      refine kb ?_ hb
      go_grown
  clear hb_0 hb_1 hp_0 fp_0 hp_1 fp_1 hlb hlp hnb0 hnb1 hkb1 hnb2 hkb2 hnp0 hkp1 hB hsz
  clear hb hz
  obtain ⟨hp_0, fp_0, hp_1, fp_1⟩ := T
  have hlp := hlp'; clear hlp'
  have hnp0 : ¬ (w.heap.size + 1 + 1 = w2.heap.size) := by omega
  have hnp1 : ¬ (w.heap.size + 1 = w2.heap.size) := by omega
  have hkp1 : w.heap.size + 1 < w2.heap.size := by omega
  have hnp2 : ¬ (w.heap.size = w2.heap.size) := by omega
  have hkp2 : w.heap.size < w2.heap.size := by omega
  have hB := hB'; clear hB'
  have hsz := hB.size
  go_wp2
  refine bodyPost_ret (v := TB _ _) (by simp [results, Tryd.results11, go_sem, hp_0, hp_1] <;> first | done | rfl | exact dec_eq Iff.rfl) rfl ⟨rfl, by go_grown⟩

set_option maxRecDepth 100000 in
set_option maxHeartbeats 1000000 in
theorem put_rh (x t : BitVec 8) (i : Int) (h : 7 < i) (v s : Bool) (w : World) : Calls Tryd.prog 11 #[TB x t, .int .i64 i, TBit v s] w fun e w' => e = .returned (TB x t) ∧ Below w.heap.size w w' := by
  have h0 : ¬ i < 0 := by omega
  have h8 : ¬ i < 8 := by omega
  go_enter Tryd.func11, Tryd.ntmps11
  go_wp2_with fail
  ((with_reducible refine (bits_r x t _).mono ?_); rintro _ w1 ⟨rfl, hb⟩)
  have T : w1.cell? ⟨w.heap.size + 1, 0, none⟩ = some (.bool v) ∧ w1.cell? ⟨w.heap.size + 1, 1, none⟩ = some (.bool s) ∧ w1.cell? ⟨w.heap.size + 1 + 1, 0, none⟩ = some (.int .u8 0) ∧ w1.frozen? ⟨w.heap.size + 1 + 1, 0, none⟩ = false ∧ w1.cell? ⟨w.heap.size + 1 + 1, 1, none⟩ = some (.int .u8 0) ∧ w1.frozen? ⟨w.heap.size + 1 + 1, 1, none⟩ = false := by
      refine ⟨?_, ?_, ?_, ?_, ?_, ?_⟩ <;> first | (refine kc hb ?_ <;> (go_simp; first | done | rfl)) | (refine kfz hb ?_ ?_ <;> first | (go_size; done) | (go_simp; done))
  have hz := hb.size
  (try simp only [World.size_alloc, World.size_setCell, World.size_drew] at hz)
  have hlb' : w.heap.size + 1 < w1.heap.size := by omega
  have hlp' : w.heap.size + 1 + 1 < w1.heap.size := by omega
  have hB' : Below w.heap.size w w1 := by
      refine kb ?_ hb
      go_grown
  clear hb hz
  obtain ⟨hb_0, hb_1, hp_0, fp_0, hp_1, fp_1⟩ := T
  have hlb := hlb'; clear hlb'
  have hlp := hlp'; clear hlp'
  have hnb0 : ¬ (w.heap.size + 1 = w1.heap.size) := by omega
  have hnb1 : ¬ (w.heap.size = w1.heap.size) := by omega
  have hkb1 : w.heap.size < w1.heap.size := by omega
  have hnb2 : ¬ (w.heap.size = w1.heap.size + 1) := by omega
  have hkb2 : w.heap.size < w1.heap.size + 1 := by omega
  have hnp0 : ¬ (w.heap.size + 1 + 1 = w1.heap.size) := by omega
  have hkp1 : w.heap.size + 1 < w1.heap.size := by omega
  have hB := hB'; clear hB'
  have hsz := hB.size
  go_wp2_with fail
  ((with_reducible refine (made_put _ _ _).mono ?_); rintro _ w2 ⟨rfl, hb⟩)
  have T : w2.cell? ⟨w.heap.size + 1 + 1, 0, none⟩ = some (.int .u8 0) ∧ w2.frozen? ⟨w.heap.size + 1 + 1, 0, none⟩ = false ∧ w2.cell? ⟨w.heap.size + 1 + 1, 1, none⟩ = some (.int .u8 0) ∧ w2.frozen? ⟨w.heap.size + 1 + 1, 1, none⟩ = false := by
      refine ⟨?_, ?_, ?_, ?_⟩ <;> first | (refine kc hb ?_ <;> (go_simp; first | done | rfl)) | (refine kfz hb ?_ ?_ <;> first | (go_size; done) | (go_simp; done))
  have hz := hb.size
  (try simp only [World.size_alloc, World.size_setCell, World.size_drew] at hz)
  have hlp' : w.heap.size + 1 + 1 < w2.heap.size := by omega
  have hB' : Below w.heap.size w w2 := by
      refine kb ?_ hb
      go_grown
  clear hb_0 hb_1 hp_0 fp_0 hp_1 fp_1 hlb hlp hnb0 hnb1 hkb1 hnb2 hkb2 hnp0 hkp1 hB hsz
  clear hb hz
  obtain ⟨hp_0, fp_0, hp_1, fp_1⟩ := T
  have hlp := hlp'; clear hlp'
  have hnp0 : ¬ (w.heap.size + 1 + 1 = w2.heap.size) := by omega
  have hnp1 : ¬ (w.heap.size + 1 = w2.heap.size) := by omega
  have hkp1 : w.heap.size + 1 < w2.heap.size := by omega
  have hnp2 : ¬ (w.heap.size = w2.heap.size) := by omega
  have hkp2 : w.heap.size < w2.heap.size := by omega
  have hB := hB'; clear hB'
  have hsz := hB.size
  go_wp2
  refine bodyPost_ret (v := TB _ _) (by simp [results, Tryd.results11, go_sem, hp_0, hp_1] <;> first | done | rfl | exact dec_eq Iff.rfl) rfl ⟨rfl, by go_grown⟩

theorem put_ri (x t : BitVec 8) (i : Nat) (v s : Bool) (h : i < 8) (w : World) : Calls Tryd.prog 11 #[TB x t, .int .i64 i, TBit v s] w fun e w' => e = .returned (TB (setB x i v) (setB t i s)) ∧ Below w.heap.size w w' := by
  match i, h with
  | 0, _ => exact put_r0 x t v s w
  | 1, _ => exact put_r1 x t v s w
  | 2, _ => exact put_r2 x t v s w
  | 3, _ => exact put_r3 x t v s w
  | 4, _ => exact put_r4 x t v s w
  | 5, _ => exact put_r5 x t v s w
  | 6, _ => exact put_r6 x t v s w
  | 7, _ => exact put_r7 x t v s w
end Go.Proofs.YtdpoonmgailonaaDoor
