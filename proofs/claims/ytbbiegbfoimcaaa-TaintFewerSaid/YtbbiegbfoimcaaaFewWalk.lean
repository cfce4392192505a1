/-
  TaintFewer returns true: the walk.
-/
import Derived.Test.YtbbiegbfoimcaaaFew
import Derived.Test.YtbbiegbfoimcaaaPlan
set_option linter.unusedSimpArgs false
set_option linter.unusedVariables false
namespace Go.Proofs.Ytbbiegbfoimcaaa
open Go.RowKit

set_option maxRecDepth 100000 in
set_option maxHeartbeats 4000000 in
theorem few_walk (x t y s p q z : BitVec 8) (w : World) : Calls Try.prog 10 #[TB x t, TB y s, .agg #[B8 p, B8 q, B8 z]] w (LawEnd w) := by
  have z0 := u8_lo z
  have z1 := u8_hi z
  have z2 := u8_rem z
  have z3 := k8_lt z
  go_enter Try.func10, Try.ntmps10
  go_wp2_with fail
  ((with_reducible refine (fewer_c x t p _).mono ?_); rintro _ w1 ⟨rfl, hb⟩)
  have T : w1.cell? ⟨w.heap.size, 0, none⟩ = some (B8 x) ∧ w1.cell? ⟨w.heap.size, 1, none⟩ = some (B8 t) ∧ w1.cell? ⟨w.heap.size + 1, 0, none⟩ = some (B8 y) ∧ w1.cell? ⟨w.heap.size + 1, 1, none⟩ = some (B8 s) ∧ w1.cell? ⟨w.heap.size + 1 + 1, 0, none⟩ = some (B8 p) ∧ w1.cell? ⟨w.heap.size + 1 + 1, 1, none⟩ = some (B8 q) ∧ w1.cell? ⟨w.heap.size + 1 + 1, 2, none⟩ = some (B8 z) := by
      refine ⟨?_, ?_, ?_, ?_, ?_, ?_, ?_⟩ <;> refine kc hb ?_ <;> (go_simp; first | done | rfl)
  have hz := hb.size
  (try simp only [World.size_alloc, World.size_setCell, World.size_drew] at hz)
  have hla' : w.heap.size < w1.heap.size := by omega
  have hlb' : w.heap.size + 1 < w1.heap.size := by omega
  have hle' : w.heap.size + 1 + 1 < w1.heap.size := by omega
  have hB' : Below w.heap.size w w1 := by
      refine kb ?_ hb
      go_grown
  clear hb hz
  obtain ⟨ha_0, ha_1, hb_0, hb_1, he_0, he_1, he_2⟩ := T
  have hla := hla'; clear hla'
  have hlb := hlb'; clear hlb'
  have hle := hle'; clear hle'
  have hna0 : ¬ (w.heap.size = w1.heap.size) := by omega
  have hna1 : ¬ (w.heap.size = w1.heap.size + 1) := by omega
  have hka1 : w.heap.size < w1.heap.size + 1 := by omega
  have hna2 : ¬ (w.heap.size = w1.heap.size + 1 + 1) := by omega
  have hka2 : w.heap.size < w1.heap.size + 1 + 1 := by omega
  have hnb0 : ¬ (w.heap.size + 1 = w1.heap.size) := by omega
  have hkb1 : w.heap.size < w1.heap.size := by omega
  have hne0 : ¬ (w.heap.size + 1 + 1 = w1.heap.size) := by omega
  have hke1 : w.heap.size + 1 < w1.heap.size := by omega
  have hB := hB'; clear hB'
  have hsz := hB.size
  go_wp2_with fail
  ((with_reducible refine (fewer_c y s q _).mono ?_); rintro _ w2 ⟨rfl, hb⟩)
  have T : w2.cell? ⟨w.heap.size, 0, none⟩ = some (B8 x) ∧ w2.cell? ⟨w.heap.size, 1, none⟩ = some (B8 t) ∧ w2.cell? ⟨w.heap.size + 1, 0, none⟩ = some (B8 y) ∧ w2.cell? ⟨w.heap.size + 1, 1, none⟩ = some (B8 s) ∧ w2.cell? ⟨w.heap.size + 1 + 1, 0, none⟩ = some (B8 p) ∧ w2.cell? ⟨w.heap.size + 1 + 1, 1, none⟩ = some (B8 q) ∧ w2.cell? ⟨w.heap.size + 1 + 1, 2, none⟩ = some (B8 z) ∧ w2.cell? ⟨w1.heap.size, 0, none⟩ = some (B8 x) ∧ w2.cell? ⟨w1.heap.size, 1, none⟩ = some (B8 (t &&& p)) := by
      refine ⟨?_, ?_, ?_, ?_, ?_, ?_, ?_, ?_, ?_⟩ <;> refine kc hb ?_ <;> (go_simp; first | done | rfl)
  have hz := hb.size
  (try simp only [World.size_alloc, World.size_setCell, World.size_drew] at hz)
  have hla' : w.heap.size < w2.heap.size := by omega
  have hlb' : w.heap.size + 1 < w2.heap.size := by omega
  have hle' : w.heap.size + 1 + 1 < w2.heap.size := by omega
  have hlc' : w1.heap.size < w2.heap.size := by omega
  have hB' : Below w.heap.size w w2 := by
      refine kb ?_ hb
      go_grown
  clear ha_0 ha_1 hb_0 hb_1 he_0 he_1 he_2 hla hlb hle hna0 hna1 hka1 hna2 hka2 hnb0 hkb1 hne0 hke1 hB hsz
  clear hb hz
  obtain ⟨ha_0, ha_1, hb_0, hb_1, he_0, he_1, he_2, hc_0, hc_1⟩ := T
  have hla := hla'; clear hla'
  have hlb := hlb'; clear hlb'
  have hle := hle'; clear hle'
  have hlc := hlc'; clear hlc'
  have hna0 : ¬ (w.heap.size = w2.heap.size) := by omega
  have hna1 : ¬ (w.heap.size = w2.heap.size + 1) := by omega
  have hka1 : w.heap.size < w2.heap.size + 1 := by omega
  have hna2 : ¬ (w.heap.size = w2.heap.size + 1 + 1) := by omega
  have hka2 : w.heap.size < w2.heap.size + 1 + 1 := by omega
  have hnb0 : ¬ (w.heap.size + 1 = w2.heap.size) := by omega
  have hkb1 : w.heap.size < w2.heap.size := by omega
  have hne0 : ¬ (w.heap.size + 1 + 1 = w2.heap.size) := by omega
  have hke1 : w.heap.size + 1 < w2.heap.size := by omega
  have hnc0 : ¬ (w1.heap.size = w2.heap.size) := by omega
  have hnc1 : ¬ (w1.heap.size = w2.heap.size + 1) := by omega
  have hkc1 : w1.heap.size < w2.heap.size + 1 := by omega
  have hnc2 : ¬ (w1.heap.size = w2.heap.size + 1 + 1) := by omega
  have hkc2 : w1.heap.size < w2.heap.size + 1 + 1 := by omega
  have hB := hB'; clear hB'
  have hsz := hB.size
  go_wp2_with fail
  refine wp_region_plan (fun w' => w'.cell? ⟨w.heap.size, 0, none⟩ = some (B8 x) ∧ w'.cell? ⟨w.heap.size, 1, none⟩ = some (B8 t) ∧ w'.cell? ⟨w.heap.size + 1, 0, none⟩ = some (B8 y) ∧ w'.cell? ⟨w.heap.size + 1, 1, none⟩ = some (B8 s) ∧ w'.cell? ⟨w1.heap.size, 0, none⟩ = some (B8 x) ∧ w'.cell? ⟨w1.heap.size, 1, none⟩ = some (B8 (t &&& p)) ∧ w'.cell? ⟨w2.heap.size, 0, none⟩ = some (B8 y) ∧ w'.cell? ⟨w2.heap.size, 1, none⟩ = some (B8 (s &&& q)) ∧ w'.cell? ⟨w.heap.size + 1 + 1, 0, none⟩ = some (B8 p) ∧ w'.cell? ⟨w.heap.size + 1 + 1, 1, none⟩ = some (B8 q) ∧ w'.cell? ⟨w.heap.size + 1 + 1, 2, none⟩ = some (B8 z) ∧ Below w.heap.size w w') (by kernel_rfl) (by kernel_rfl) (by kernel_rfl) ?_ ?_
  · (try dsimp only)
    refine ⟨?_, ?_, ?_, ?_, ?_, ?_, ?_, ?_, ?_, ?_, ?_, ?_⟩ <;> first | (go_simp; done) | (simp [*]; done) | go_grown
  repeat (first
    | (refine Plan.val (v := ?_) ?_ ?_ ?_; rotate_left; (· rfl); (· (intro W hSw; (try dsimp only at hSw); go_simp; all_goals (first | (with_reducible rfl) | (constructor <;> (with_reducible rfl))))); (try simp only [Act.put, List.setIfInBounds_toArray, List.set_cons_zero, List.set_cons_succ]))
    | (refine Plan.no ?_ ?_; (· rfl); (try simp only [Act.put, List.setIfInBounds_toArray, List.set_cons_zero, List.set_cons_succ]))
    | (refine Plan.call (v := ?_) (f := ?_) (args := ?_) ?_ ?_ ?_ ?_; rotate_left 3; (· rfl); (· (intro W hSw; (try dsimp only at hSw); go_simp; all_goals (first | (with_reducible rfl) | (constructor <;> (with_reducible rfl))))); (· (intro W hSw; (try dsimp only at hSw); first | (go_at_call 34; ((with_reducible refine (within_and _ _ _ _ _ _ _).mono ?_); rintro _ wz ⟨rfl, hb⟩; (refine ⟨?_, ?_⟩; (· with_reducible rfl); exact ⟨kc hb hSw.1, kc hb hSw.2.1, kc hb hSw.2.2.1, kc hb hSw.2.2.2.1, kc hb hSw.2.2.2.2.1, kc hb hSw.2.2.2.2.2.1, kc hb hSw.2.2.2.2.2.2.1, kc hb hSw.2.2.2.2.2.2.2.1, kc hb hSw.2.2.2.2.2.2.2.2.1, kc hb hSw.2.2.2.2.2.2.2.2.2.1, kc hb hSw.2.2.2.2.2.2.2.2.2.2.1, kb hSw.2.2.2.2.2.2.2.2.2.2.2 hb⟩))) | (go_at_call 34; ((with_reducible refine (within_or _ _ _ _ _ _ _).mono ?_); rintro _ wz ⟨rfl, hb⟩; (refine ⟨?_, ?_⟩; (· with_reducible rfl); exact ⟨kc hb hSw.1, kc hb hSw.2.1, kc hb hSw.2.2.1, kc hb hSw.2.2.2.1, kc hb hSw.2.2.2.2.1, kc hb hSw.2.2.2.2.2.1, kc hb hSw.2.2.2.2.2.2.1, kc hb hSw.2.2.2.2.2.2.2.1, kc hb hSw.2.2.2.2.2.2.2.2.1, kc hb hSw.2.2.2.2.2.2.2.2.2.1, kc hb hSw.2.2.2.2.2.2.2.2.2.2.1, kb hSw.2.2.2.2.2.2.2.2.2.2.2 hb⟩))) | (go_at_call 34; ((with_reducible refine (within_xor _ _ _ _ _ _ _).mono ?_); rintro _ wz ⟨rfl, hb⟩; (refine ⟨?_, ?_⟩; (· with_reducible rfl); exact ⟨kc hb hSw.1, kc hb hSw.2.1, kc hb hSw.2.2.1, kc hb hSw.2.2.2.1, kc hb hSw.2.2.2.2.1, kc hb hSw.2.2.2.2.2.1, kc hb hSw.2.2.2.2.2.2.1, kc hb hSw.2.2.2.2.2.2.2.1, kc hb hSw.2.2.2.2.2.2.2.2.1, kc hb hSw.2.2.2.2.2.2.2.2.2.1, kc hb hSw.2.2.2.2.2.2.2.2.2.2.1, kb hSw.2.2.2.2.2.2.2.2.2.2.2 hb⟩))) | (go_at_call 12; ((with_reducible refine (and_n _ _ _ _ _).mono ?_); rintro _ wz ⟨rfl, hb⟩; (refine ⟨?_, ?_⟩; (· with_reducible rfl); exact ⟨kc hb hSw.1, kc hb hSw.2.1, kc hb hSw.2.2.1, kc hb hSw.2.2.2.1, kc hb hSw.2.2.2.2.1, kc hb hSw.2.2.2.2.2.1, kc hb hSw.2.2.2.2.2.2.1, kc hb hSw.2.2.2.2.2.2.2.1, kc hb hSw.2.2.2.2.2.2.2.2.1, kc hb hSw.2.2.2.2.2.2.2.2.2.1, kc hb hSw.2.2.2.2.2.2.2.2.2.2.1, kb hSw.2.2.2.2.2.2.2.2.2.2.2 hb⟩))) | (go_at_call 13; ((with_reducible refine (or_n _ _ _ _ _).mono ?_); rintro _ wz ⟨rfl, hb⟩; (refine ⟨?_, ?_⟩; (· with_reducible rfl); exact ⟨kc hb hSw.1, kc hb hSw.2.1, kc hb hSw.2.2.1, kc hb hSw.2.2.2.1, kc hb hSw.2.2.2.2.1, kc hb hSw.2.2.2.2.2.1, kc hb hSw.2.2.2.2.2.2.1, kc hb hSw.2.2.2.2.2.2.2.1, kc hb hSw.2.2.2.2.2.2.2.2.1, kc hb hSw.2.2.2.2.2.2.2.2.2.1, kc hb hSw.2.2.2.2.2.2.2.2.2.2.1, kb hSw.2.2.2.2.2.2.2.2.2.2.2 hb⟩))) | (go_at_call 14; ((with_reducible refine (xor_n _ _ _ _ _).mono ?_); rintro _ wz ⟨rfl, hb⟩; (refine ⟨?_, ?_⟩; (· with_reducible rfl); exact ⟨kc hb hSw.1, kc hb hSw.2.1, kc hb hSw.2.2.1, kc hb hSw.2.2.2.1, kc hb hSw.2.2.2.2.1, kc hb hSw.2.2.2.2.2.1, kc hb hSw.2.2.2.2.2.2.1, kc hb hSw.2.2.2.2.2.2.2.1, kc hb hSw.2.2.2.2.2.2.2.2.1, kc hb hSw.2.2.2.2.2.2.2.2.2.1, kc hb hSw.2.2.2.2.2.2.2.2.2.2.1, kb hSw.2.2.2.2.2.2.2.2.2.2.2 hb⟩))))); (try simp only [Act.put, List.setIfInBounds_toArray, List.set_cons_zero, List.set_cons_succ])))
  refine Plan.done ?_
  intro w3 T
  (try dsimp only at T)
  clear ha_0 ha_1 hb_0 hb_1 he_0 he_1 he_2 hc_0 hc_1 hla hlb hle hlc hna0 hna1 hka1 hna2 hka2 hnb0 hkb1 hne0 hke1 hnc0 hnc1 hkc1 hnc2 hkc2 hB hsz
  obtain ⟨ha_0, ha_1, hb_0, hb_1, hc_0, hc_1, hd_0, hd_1, he_0, he_1, he_2, hB⟩ := T
  have hsz := hB.size
  have hla := klt ha_0
  have hlb := klt hb_0
  have hlc := klt hc_0
  have hld := klt hd_0
  have hle := klt he_0
  have hna0 : ¬ (w.heap.size = w3.heap.size) := by omega
  have hna1 : ¬ (w.heap.size = w3.heap.size + 1) := by omega
  have hka1 : w.heap.size < w3.heap.size + 1 := by omega
  have hna2 : ¬ (w.heap.size = w3.heap.size + 1 + 1) := by omega
  have hka2 : w.heap.size < w3.heap.size + 1 + 1 := by omega
  have hnb0 : ¬ (w.heap.size + 1 = w3.heap.size) := by omega
  have hkb1 : w.heap.size < w3.heap.size := by omega
  have hnc0 : ¬ (w1.heap.size = w3.heap.size) := by omega
  have hnc1 : ¬ (w1.heap.size = w3.heap.size + 1) := by omega
  have hkc1 : w1.heap.size < w3.heap.size + 1 := by omega
  have hnc2 : ¬ (w1.heap.size = w3.heap.size + 1 + 1) := by omega
  have hkc2 : w1.heap.size < w3.heap.size + 1 + 1 := by omega
  have hnd0 : ¬ (w2.heap.size = w3.heap.size) := by omega
  have hnd1 : ¬ (w2.heap.size = w3.heap.size + 1) := by omega
  have hkd1 : w2.heap.size < w3.heap.size + 1 := by omega
  have hnd2 : ¬ (w2.heap.size = w3.heap.size + 1 + 1) := by omega
  have hkd2 : w2.heap.size < w3.heap.size + 1 + 1 := by omega
  have hne0 : ¬ (w.heap.size + 1 + 1 = w3.heap.size) := by omega
  have hke1 : w.heap.size + 1 < w3.heap.size := by omega
  go_wp2_with fail
  ((with_reducible refine (bit_in x t (k8 z) (k8_lt z) _).mono ?_); rintro _ w4 ⟨rfl, hb⟩)
  have T : w4.cell? ⟨w.heap.size, 0, none⟩ = some (B8 x) ∧ w4.cell? ⟨w.heap.size, 1, none⟩ = some (B8 t) ∧ w4.cell? ⟨w.heap.size + 1, 0, none⟩ = some (B8 y) ∧ w4.cell? ⟨w.heap.size + 1, 1, none⟩ = some (B8 s) ∧ w4.cell? ⟨w.heap.size + 1 + 1, 0, none⟩ = some (B8 p) ∧ w4.cell? ⟨w.heap.size + 1 + 1, 1, none⟩ = some (B8 q) ∧ w4.cell? ⟨w.heap.size + 1 + 1, 2, none⟩ = some (B8 z) ∧ w4.cell? ⟨w1.heap.size, 0, none⟩ = some (B8 x) ∧ w4.cell? ⟨w1.heap.size, 1, none⟩ = some (B8 (t &&& p)) ∧ w4.cell? ⟨w2.heap.size, 0, none⟩ = some (B8 y) ∧ w4.cell? ⟨w2.heap.size, 1, none⟩ = some (B8 (s &&& q)) := by
      refine ⟨?_, ?_, ?_, ?_, ?_, ?_, ?_, ?_, ?_, ?_, ?_⟩ <;> refine kc hb ?_ <;> (go_simp; first | done | rfl)
  have hz := hb.size
  (try simp only [World.size_alloc, World.size_setCell, World.size_drew] at hz)
  have hla' : w.heap.size < w4.heap.size := by omega
  have hlb' : w.heap.size + 1 < w4.heap.size := by omega
  have hle' : w.heap.size + 1 + 1 < w4.heap.size := by omega
  have hlc' : w1.heap.size < w4.heap.size := by omega
  have hld' : w2.heap.size < w4.heap.size := by omega
  have hB' : Below w.heap.size w w4 := by
      refine kb ?_ hb
      go_grown
  clear ha_0 ha_1 hb_0 hb_1 hc_0 hc_1 hd_0 hd_1 he_0 he_1 he_2 hB hsz hla hlb hlc hld hle hna0 hna1 hka1 hna2 hka2 hnb0 hkb1 hnc0 hnc1 hkc1 hnc2 hkc2 hnd0 hnd1 hkd1 hnd2 hkd2 hne0 hke1
  clear hb hz
  obtain ⟨ha_0, ha_1, hb_0, hb_1, he_0, he_1, he_2, hc_0, hc_1, hd_0, hd_1⟩ := T
  have hla := hla'; clear hla'
  have hlb := hlb'; clear hlb'
  have hle := hle'; clear hle'
  have hlc := hlc'; clear hlc'
  have hld := hld'; clear hld'
  have hna0 : ¬ (w.heap.size = w4.heap.size) := by omega
  have hna1 : ¬ (w.heap.size = w4.heap.size + 1) := by omega
  have hka1 : w.heap.size < w4.heap.size + 1 := by omega
  have hna2 : ¬ (w.heap.size = w4.heap.size + 1 + 1) := by omega
  have hka2 : w.heap.size < w4.heap.size + 1 + 1 := by omega
  have hnb0 : ¬ (w.heap.size + 1 = w4.heap.size) := by omega
  have hkb1 : w.heap.size < w4.heap.size := by omega
  have hne0 : ¬ (w.heap.size + 1 + 1 = w4.heap.size) := by omega
  have hke1 : w.heap.size + 1 < w4.heap.size := by omega
  have hnc0 : ¬ (w1.heap.size = w4.heap.size) := by omega
  have hnc1 : ¬ (w1.heap.size = w4.heap.size + 1) := by omega
  have hkc1 : w1.heap.size < w4.heap.size + 1 := by omega
  have hnc2 : ¬ (w1.heap.size = w4.heap.size + 1 + 1) := by omega
  have hkc2 : w1.heap.size < w4.heap.size + 1 + 1 := by omega
  have hnd0 : ¬ (w2.heap.size = w4.heap.size) := by omega
  have hnd1 : ¬ (w2.heap.size = w4.heap.size + 1) := by omega
  have hkd1 : w2.heap.size < w4.heap.size + 1 := by omega
  have hnd2 : ¬ (w2.heap.size = w4.heap.size + 1 + 1) := by omega
  have hkd2 : w2.heap.size < w4.heap.size + 1 + 1 := by omega
  have hB := hB'; clear hB'
  have hsz := hB.size
  go_wp2_with fail
  ((with_reducible refine (bit_in x (t &&& p) (k8 z) (k8_lt z) _).mono ?_); rintro _ w5 ⟨rfl, hb⟩)
  have T : w5.cell? ⟨w.heap.size, 0, none⟩ = some (B8 x) ∧ w5.cell? ⟨w.heap.size, 1, none⟩ = some (B8 t) ∧ w5.cell? ⟨w.heap.size + 1, 0, none⟩ = some (B8 y) ∧ w5.cell? ⟨w.heap.size + 1, 1, none⟩ = some (B8 s) ∧ w5.cell? ⟨w.heap.size + 1 + 1, 0, none⟩ = some (B8 p) ∧ w5.cell? ⟨w.heap.size + 1 + 1, 1, none⟩ = some (B8 q) ∧ w5.cell? ⟨w.heap.size + 1 + 1, 2, none⟩ = some (B8 z) ∧ w5.cell? ⟨w1.heap.size, 0, none⟩ = some (B8 x) ∧ w5.cell? ⟨w1.heap.size, 1, none⟩ = some (B8 (t &&& p)) ∧ w5.cell? ⟨w2.heap.size, 0, none⟩ = some (B8 y) ∧ w5.cell? ⟨w2.heap.size, 1, none⟩ = some (B8 (s &&& q)) ∧ w5.cell? ⟨w4.heap.size, 0, none⟩ = some (.bool (bitAt x (k8 z))) ∧ w5.cell? ⟨w4.heap.size, 1, none⟩ = some (.bool (bitAt t (k8 z))) := by
      refine ⟨?_, ?_, ?_, ?_, ?_, ?_, ?_, ?_, ?_, ?_, ?_, ?_, ?_⟩ <;> refine kc hb ?_ <;> (go_simp; first | done | rfl)
  have hz := hb.size
  (try simp only [World.size_alloc, World.size_setCell, World.size_drew] at hz)
  have hla' : w.heap.size < w5.heap.size := by omega
  have hlb' : w.heap.size + 1 < w5.heap.size := by omega
  have hle' : w.heap.size + 1 + 1 < w5.heap.size := by omega
  have hlc' : w1.heap.size < w5.heap.size := by omega
  have hld' : w2.heap.size < w5.heap.size := by omega
  have hli' : w4.heap.size < w5.heap.size := by omega
  have hB' : Below w.heap.size w w5 := by
      refine kb ?_ hb
      go_grown
  clear ha_0 ha_1 hb_0 hb_1 he_0 he_1 he_2 hc_0 hc_1 hd_0 hd_1 hla hlb hle hlc hld hna0 hna1 hka1 hna2 hka2 hnb0 hkb1 hne0 hke1 hnc0 hnc1 hkc1 hnc2 hkc2 hnd0 hnd1 hkd1 hnd2 hkd2 hB hsz
  clear hb hz
  obtain ⟨ha_0, ha_1, hb_0, hb_1, he_0, he_1, he_2, hc_0, hc_1, hd_0, hd_1, hi_0, hi_1⟩ := T
  have hla := hla'; clear hla'
  have hlb := hlb'; clear hlb'
  have hle := hle'; clear hle'
  have hlc := hlc'; clear hlc'
  have hld := hld'; clear hld'
  have hli := hli'; clear hli'
  have hna0 : ¬ (w.heap.size = w5.heap.size) := by omega
  have hna1 : ¬ (w.heap.size = w5.heap.size + 1) := by omega
  have hka1 : w.heap.size < w5.heap.size + 1 := by omega
  have hna2 : ¬ (w.heap.size = w5.heap.size + 1 + 1) := by omega
  have hka2 : w.heap.size < w5.heap.size + 1 + 1 := by omega
  have hnb0 : ¬ (w.heap.size + 1 = w5.heap.size) := by omega
  have hkb1 : w.heap.size < w5.heap.size := by omega
  have hne0 : ¬ (w.heap.size + 1 + 1 = w5.heap.size) := by omega
  have hke1 : w.heap.size + 1 < w5.heap.size := by omega
  have hnc0 : ¬ (w1.heap.size = w5.heap.size) := by omega
  have hnc1 : ¬ (w1.heap.size = w5.heap.size + 1) := by omega
  have hkc1 : w1.heap.size < w5.heap.size + 1 := by omega
  have hnc2 : ¬ (w1.heap.size = w5.heap.size + 1 + 1) := by omega
  have hkc2 : w1.heap.size < w5.heap.size + 1 + 1 := by omega
  have hnd0 : ¬ (w2.heap.size = w5.heap.size) := by omega
  have hnd1 : ¬ (w2.heap.size = w5.heap.size + 1) := by omega
  have hkd1 : w2.heap.size < w5.heap.size + 1 := by omega
  have hnd2 : ¬ (w2.heap.size = w5.heap.size + 1 + 1) := by omega
  have hkd2 : w2.heap.size < w5.heap.size + 1 + 1 := by omega
  have hni0 : ¬ (w4.heap.size = w5.heap.size) := by omega
  have hni1 : ¬ (w4.heap.size = w5.heap.size + 1) := by omega
  have hki1 : w4.heap.size < w5.heap.size + 1 := by omega
  have hni2 : ¬ (w4.heap.size = w5.heap.size + 1 + 1) := by omega
  have hki2 : w4.heap.size < w5.heap.size + 1 + 1 := by omega
  have hB := hB'; clear hB'
  have hsz := hB.size
  go_wp2_with fail
  ((with_reducible refine (left_c y s _ _ _).mono ?_); rintro _ w6 ⟨rfl, hb⟩)
  have T : w6.cell? ⟨w.heap.size, 0, none⟩ = some (B8 x) ∧ w6.cell? ⟨w.heap.size, 1, none⟩ = some (B8 t) ∧ w6.cell? ⟨w.heap.size + 1, 0, none⟩ = some (B8 y) ∧ w6.cell? ⟨w.heap.size + 1, 1, none⟩ = some (B8 s) ∧ w6.cell? ⟨w1.heap.size, 0, none⟩ = some (B8 x) ∧ w6.cell? ⟨w1.heap.size, 1, none⟩ = some (B8 (t &&& p)) ∧ w6.cell? ⟨w2.heap.size, 0, none⟩ = some (B8 y) ∧ w6.cell? ⟨w2.heap.size, 1, none⟩ = some (B8 (s &&& q)) ∧ w6.cell? ⟨w4.heap.size, 0, none⟩ = some (.bool (bitAt x (k8 z))) ∧ w6.cell? ⟨w4.heap.size, 1, none⟩ = some (.bool (bitAt t (k8 z))) ∧ w6.cell? ⟨w5.heap.size, 0, none⟩ = some (.bool (bitAt x (k8 z))) ∧ w6.cell? ⟨w5.heap.size, 1, none⟩ = some (.bool (bitAt (t &&& p) (k8 z))) := by
      refine ⟨?_, ?_, ?_, ?_, ?_, ?_, ?_, ?_, ?_, ?_, ?_, ?_⟩ <;> refine kc hb ?_ <;> (go_simp; first | done | rfl)
  have hz := hb.size
  (try simp only [World.size_alloc, World.size_setCell, World.size_drew] at hz)
  have hla' : w.heap.size < w6.heap.size := by omega
  have hlb' : w.heap.size + 1 < w6.heap.size := by omega
  have hlc' : w1.heap.size < w6.heap.size := by omega
  have hld' : w2.heap.size < w6.heap.size := by omega
  have hli' : w4.heap.size < w6.heap.size := by omega
  have hlo' : w5.heap.size < w6.heap.size := by omega
  have hB' : Below w.heap.size w w6 := by
      refine kb ?_ hb
      go_grown
  clear ha_0 ha_1 hb_0 hb_1 he_0 he_1 he_2 hc_0 hc_1 hd_0 hd_1 hi_0 hi_1 hla hlb hle hlc hld hli hna0 hna1 hka1 hna2 hka2 hnb0 hkb1 hne0 hke1 hnc0 hnc1 hkc1 hnc2 hkc2 hnd0 hnd1 hkd1 hnd2 hkd2 hni0 hni1 hki1 hni2 hki2 hB hsz
  clear hb hz
  obtain ⟨ha_0, ha_1, hb_0, hb_1, hc_0, hc_1, hd_0, hd_1, hi_0, hi_1, ho_0, ho_1⟩ := T
  have hla := hla'; clear hla'
  have hlb := hlb'; clear hlb'
  have hlc := hlc'; clear hlc'
  have hld := hld'; clear hld'
  have hli := hli'; clear hli'
  have hlo := hlo'; clear hlo'
  have hna0 : ¬ (w.heap.size = w6.heap.size) := by omega
  have hna1 : ¬ (w.heap.size = w6.heap.size + 1) := by omega
  have hka1 : w.heap.size < w6.heap.size + 1 := by omega
  have hna2 : ¬ (w.heap.size = w6.heap.size + 1 + 1) := by omega
  have hka2 : w.heap.size < w6.heap.size + 1 + 1 := by omega
  have hnb0 : ¬ (w.heap.size + 1 = w6.heap.size) := by omega
  have hkb1 : w.heap.size < w6.heap.size := by omega
  have hnc0 : ¬ (w1.heap.size = w6.heap.size) := by omega
  have hnc1 : ¬ (w1.heap.size = w6.heap.size + 1) := by omega
  have hkc1 : w1.heap.size < w6.heap.size + 1 := by omega
  have hnc2 : ¬ (w1.heap.size = w6.heap.size + 1 + 1) := by omega
  have hkc2 : w1.heap.size < w6.heap.size + 1 + 1 := by omega
  have hnd0 : ¬ (w2.heap.size = w6.heap.size) := by omega
  have hnd1 : ¬ (w2.heap.size = w6.heap.size + 1) := by omega
  have hkd1 : w2.heap.size < w6.heap.size + 1 := by omega
  have hnd2 : ¬ (w2.heap.size = w6.heap.size + 1 + 1) := by omega
  have hkd2 : w2.heap.size < w6.heap.size + 1 + 1 := by omega
  have hni0 : ¬ (w4.heap.size = w6.heap.size) := by omega
  have hni1 : ¬ (w4.heap.size = w6.heap.size + 1) := by omega
  have hki1 : w4.heap.size < w6.heap.size + 1 := by omega
  have hni2 : ¬ (w4.heap.size = w6.heap.size + 1 + 1) := by omega
  have hki2 : w4.heap.size < w6.heap.size + 1 + 1 := by omega
  have hno0 : ¬ (w5.heap.size = w6.heap.size) := by omega
  have hno1 : ¬ (w5.heap.size = w6.heap.size + 1) := by omega
  have hko1 : w5.heap.size < w6.heap.size + 1 := by omega
  have hno2 : ¬ (w5.heap.size = w6.heap.size + 1 + 1) := by omega
  have hko2 : w5.heap.size < w6.heap.size + 1 + 1 := by omega
  have hB := hB'; clear hB'
  have hsz := hB.size
  go_wp2_with fail
  ((with_reducible refine (left_c y (s &&& q) _ _ _).mono ?_); rintro _ w7 ⟨rfl, hb⟩)
  have T : w7.cell? ⟨w.heap.size, 0, none⟩ = some (B8 x) ∧ w7.cell? ⟨w.heap.size, 1, none⟩ = some (B8 t) ∧ w7.cell? ⟨w.heap.size + 1, 0, none⟩ = some (B8 y) ∧ w7.cell? ⟨w.heap.size + 1, 1, none⟩ = some (B8 s) ∧ w7.cell? ⟨w1.heap.size, 0, none⟩ = some (B8 x) ∧ w7.cell? ⟨w1.heap.size, 1, none⟩ = some (B8 (t &&& p)) ∧ w7.cell? ⟨w2.heap.size, 0, none⟩ = some (B8 y) ∧ w7.cell? ⟨w2.heap.size, 1, none⟩ = some (B8 (s &&& q)) ∧ w7.cell? ⟨w4.heap.size, 0, none⟩ = some (.bool (bitAt x (k8 z))) ∧ w7.cell? ⟨w4.heap.size, 1, none⟩ = some (.bool (bitAt t (k8 z))) ∧ w7.cell? ⟨w5.heap.size, 0, none⟩ = some (.bool (bitAt x (k8 z))) ∧ w7.cell? ⟨w5.heap.size, 1, none⟩ = some (.bool (bitAt (t &&& p) (k8 z))) ∧ w7.cell? ⟨w6.heap.size, 0, none⟩ = some (B8 (setB (y <<< 1) 0 (bitAt x (k8 z)))) ∧ w7.cell? ⟨w6.heap.size, 1, none⟩ = some (B8 (setB (s <<< 1) 0 (bitAt t (k8 z)))) ∧ w7.cell? ⟨w6.heap.size + 1, 0, none⟩ = some (.bool (bitAt y 7)) ∧ w7.cell? ⟨w6.heap.size + 1, 1, none⟩ = some (.bool (bitAt s 7)) := by
      refine ⟨?_, ?_, ?_, ?_, ?_, ?_, ?_, ?_, ?_, ?_, ?_, ?_, ?_, ?_, ?_, ?_⟩ <;> refine kc hb ?_ <;> (go_simp; first | done | rfl)
  have hz := hb.size
  (try simp only [World.size_alloc, World.size_setCell, World.size_drew] at hz)
  have hla' : w.heap.size < w7.heap.size := by omega
  have hlb' : w.heap.size + 1 < w7.heap.size := by omega
  have hlc' : w1.heap.size < w7.heap.size := by omega
  have hld' : w2.heap.size < w7.heap.size := by omega
  have hli' : w4.heap.size < w7.heap.size := by omega
  have hlo' : w5.heap.size < w7.heap.size := by omega
  have hll1' : w6.heap.size < w7.heap.size := by omega
  have hlx1' : w6.heap.size + 1 < w7.heap.size := by omega
  have hB' : Below w.heap.size w w7 := by
      refine kb ?_ hb
      go_grown
  clear ha_0 ha_1 hb_0 hb_1 hc_0 hc_1 hd_0 hd_1 hi_0 hi_1 ho_0 ho_1 hla hlb hlc hld hli hlo hna0 hna1 hka1 hna2 hka2 hnb0 hkb1 hnc0 hnc1 hkc1 hnc2 hkc2 hnd0 hnd1 hkd1 hnd2 hkd2 hni0 hni1 hki1 hni2 hki2 hno0 hno1 hko1 hno2 hko2 hB hsz
  clear hb hz
  obtain ⟨ha_0, ha_1, hb_0, hb_1, hc_0, hc_1, hd_0, hd_1, hi_0, hi_1, ho_0, ho_1, hl1_0, hl1_1, hx1_0, hx1_1⟩ := T
  have hla := hla'; clear hla'
  have hlb := hlb'; clear hlb'
  have hlc := hlc'; clear hlc'
  have hld := hld'; clear hld'
  have hli := hli'; clear hli'
  have hlo := hlo'; clear hlo'
  have hll1 := hll1'; clear hll1'
  have hlx1 := hlx1'; clear hlx1'
  have hna0 : ¬ (w.heap.size = w7.heap.size) := by omega
  have hna1 : ¬ (w.heap.size = w7.heap.size + 1) := by omega
  have hka1 : w.heap.size < w7.heap.size + 1 := by omega
  have hna2 : ¬ (w.heap.size = w7.heap.size + 1 + 1) := by omega
  have hka2 : w.heap.size < w7.heap.size + 1 + 1 := by omega
  have hnb0 : ¬ (w.heap.size + 1 = w7.heap.size) := by omega
  have hkb1 : w.heap.size < w7.heap.size := by omega
  have hnc0 : ¬ (w1.heap.size = w7.heap.size) := by omega
  have hnc1 : ¬ (w1.heap.size = w7.heap.size + 1) := by omega
  have hkc1 : w1.heap.size < w7.heap.size + 1 := by omega
  have hnc2 : ¬ (w1.heap.size = w7.heap.size + 1 + 1) := by omega
  have hkc2 : w1.heap.size < w7.heap.size + 1 + 1 := by omega
  have hnd0 : ¬ (w2.heap.size = w7.heap.size) := by omega
  have hnd1 : ¬ (w2.heap.size = w7.heap.size + 1) := by omega
  have hkd1 : w2.heap.size < w7.heap.size + 1 := by omega
  have hnd2 : ¬ (w2.heap.size = w7.heap.size + 1 + 1) := by omega
  have hkd2 : w2.heap.size < w7.heap.size + 1 + 1 := by omega
  have hni0 : ¬ (w4.heap.size = w7.heap.size) := by omega
  have hni1 : ¬ (w4.heap.size = w7.heap.size + 1) := by omega
  have hki1 : w4.heap.size < w7.heap.size + 1 := by omega
  have hni2 : ¬ (w4.heap.size = w7.heap.size + 1 + 1) := by omega
  have hki2 : w4.heap.size < w7.heap.size + 1 + 1 := by omega
  have hno0 : ¬ (w5.heap.size = w7.heap.size) := by omega
  have hno1 : ¬ (w5.heap.size = w7.heap.size + 1) := by omega
  have hko1 : w5.heap.size < w7.heap.size + 1 := by omega
  have hno2 : ¬ (w5.heap.size = w7.heap.size + 1 + 1) := by omega
  have hko2 : w5.heap.size < w7.heap.size + 1 + 1 := by omega
  have hnl10 : ¬ (w6.heap.size = w7.heap.size) := by omega
  have hnl11 : ¬ (w6.heap.size = w7.heap.size + 1) := by omega
  have hkl11 : w6.heap.size < w7.heap.size + 1 := by omega
  have hnl12 : ¬ (w6.heap.size = w7.heap.size + 1 + 1) := by omega
  have hkl12 : w6.heap.size < w7.heap.size + 1 + 1 := by omega
  have hnx10 : ¬ (w6.heap.size + 1 = w7.heap.size) := by omega
  have hkx11 : w6.heap.size < w7.heap.size := by omega
  have hB := hB'; clear hB'
  have hsz := hB.size
  go_wp2_with fail
  ((with_reducible refine (right_c y s _ _ _).mono ?_); rintro _ w8 ⟨rfl, hb⟩)
  have T : w8.cell? ⟨w.heap.size, 0, none⟩ = some (B8 x) ∧ w8.cell? ⟨w.heap.size, 1, none⟩ = some (B8 t) ∧ w8.cell? ⟨w.heap.size + 1, 0, none⟩ = some (B8 y) ∧ w8.cell? ⟨w.heap.size + 1, 1, none⟩ = some (B8 s) ∧ w8.cell? ⟨w1.heap.size, 0, none⟩ = some (B8 x) ∧ w8.cell? ⟨w1.heap.size, 1, none⟩ = some (B8 (t &&& p)) ∧ w8.cell? ⟨w2.heap.size, 0, none⟩ = some (B8 y) ∧ w8.cell? ⟨w2.heap.size, 1, none⟩ = some (B8 (s &&& q)) ∧ w8.cell? ⟨w4.heap.size, 0, none⟩ = some (.bool (bitAt x (k8 z))) ∧ w8.cell? ⟨w4.heap.size, 1, none⟩ = some (.bool (bitAt t (k8 z))) ∧ w8.cell? ⟨w5.heap.size, 0, none⟩ = some (.bool (bitAt x (k8 z))) ∧ w8.cell? ⟨w5.heap.size, 1, none⟩ = some (.bool (bitAt (t &&& p) (k8 z))) ∧ w8.cell? ⟨w6.heap.size, 0, none⟩ = some (B8 (setB (y <<< 1) 0 (bitAt x (k8 z)))) ∧ w8.cell? ⟨w6.heap.size, 1, none⟩ = some (B8 (setB (s <<< 1) 0 (bitAt t (k8 z)))) ∧ w8.cell? ⟨w6.heap.size + 1, 0, none⟩ = some (.bool (bitAt y 7)) ∧ w8.cell? ⟨w6.heap.size + 1, 1, none⟩ = some (.bool (bitAt s 7)) ∧ w8.cell? ⟨w7.heap.size, 0, none⟩ = some (B8 (setB (y <<< 1) 0 (bitAt x (k8 z)))) ∧ w8.cell? ⟨w7.heap.size, 1, none⟩ = some (B8 (setB ((s &&& q) <<< 1) 0 (bitAt (t &&& p) (k8 z)))) ∧ w8.cell? ⟨w7.heap.size + 1, 0, none⟩ = some (.bool (bitAt y 7)) ∧ w8.cell? ⟨w7.heap.size + 1, 1, none⟩ = some (.bool (bitAt (s &&& q) 7)) := by
      refine ⟨?_, ?_, ?_, ?_, ?_, ?_, ?_, ?_, ?_, ?_, ?_, ?_, ?_, ?_, ?_, ?_, ?_, ?_, ?_, ?_⟩ <;> refine kc hb ?_ <;> (go_simp; first | done | rfl)
  have hz := hb.size
  (try simp only [World.size_alloc, World.size_setCell, World.size_drew] at hz)
  have hla' : w.heap.size < w8.heap.size := by omega
  have hlb' : w.heap.size + 1 < w8.heap.size := by omega
  have hlc' : w1.heap.size < w8.heap.size := by omega
  have hld' : w2.heap.size < w8.heap.size := by omega
  have hli' : w4.heap.size < w8.heap.size := by omega
  have hlo' : w5.heap.size < w8.heap.size := by omega
  have hll1' : w6.heap.size < w8.heap.size := by omega
  have hlx1' : w6.heap.size + 1 < w8.heap.size := by omega
  have hll2' : w7.heap.size < w8.heap.size := by omega
  have hlx2' : w7.heap.size + 1 < w8.heap.size := by omega
  have hB' : Below w.heap.size w w8 := by
      refine kb ?_ hb
      go_grown
  clear ha_0 ha_1 hb_0 hb_1 hc_0 hc_1 hd_0 hd_1 hi_0 hi_1 ho_0 ho_1 hl1_0 hl1_1 hx1_0 hx1_1 hla hlb hlc hld hli hlo hll1 hlx1 hna0 hna1 hka1 hna2 hka2 hnb0 hkb1 hnc0 hnc1 hkc1 hnc2 hkc2 hnd0 hnd1 hkd1 hnd2 hkd2 hni0 hni1 hki1 hni2 hki2 hno0 hno1 hko1 hno2 hko2 hnl10 hnl11 hkl11 hnl12 hkl12 hnx10 hkx11 hB hsz
  clear hb hz
  obtain ⟨ha_0, ha_1, hb_0, hb_1, hc_0, hc_1, hd_0, hd_1, hi_0, hi_1, ho_0, ho_1, hl1_0, hl1_1, hx1_0, hx1_1, hl2_0, hl2_1, hx2_0, hx2_1⟩ := T
  have hla := hla'; clear hla'
  have hlb := hlb'; clear hlb'
  have hlc := hlc'; clear hlc'
  have hld := hld'; clear hld'
  have hli := hli'; clear hli'
  have hlo := hlo'; clear hlo'
  have hll1 := hll1'; clear hll1'
  have hlx1 := hlx1'; clear hlx1'
  have hll2 := hll2'; clear hll2'
  have hlx2 := hlx2'; clear hlx2'
  have hna0 : ¬ (w.heap.size = w8.heap.size) := by omega
  have hna1 : ¬ (w.heap.size = w8.heap.size + 1) := by omega
  have hka1 : w.heap.size < w8.heap.size + 1 := by omega
  have hna2 : ¬ (w.heap.size = w8.heap.size + 1 + 1) := by omega
  have hka2 : w.heap.size < w8.heap.size + 1 + 1 := by omega
  have hnb0 : ¬ (w.heap.size + 1 = w8.heap.size) := by omega
  have hkb1 : w.heap.size < w8.heap.size := by omega
  have hnc0 : ¬ (w1.heap.size = w8.heap.size) := by omega
  have hnc1 : ¬ (w1.heap.size = w8.heap.size + 1) := by omega
  have hkc1 : w1.heap.size < w8.heap.size + 1 := by omega
  have hnc2 : ¬ (w1.heap.size = w8.heap.size + 1 + 1) := by omega
  have hkc2 : w1.heap.size < w8.heap.size + 1 + 1 := by omega
  have hnd0 : ¬ (w2.heap.size = w8.heap.size) := by omega
  have hnd1 : ¬ (w2.heap.size = w8.heap.size + 1) := by omega
  have hkd1 : w2.heap.size < w8.heap.size + 1 := by omega
  have hnd2 : ¬ (w2.heap.size = w8.heap.size + 1 + 1) := by omega
  have hkd2 : w2.heap.size < w8.heap.size + 1 + 1 := by omega
  have hni0 : ¬ (w4.heap.size = w8.heap.size) := by omega
  have hni1 : ¬ (w4.heap.size = w8.heap.size + 1) := by omega
  have hki1 : w4.heap.size < w8.heap.size + 1 := by omega
  have hni2 : ¬ (w4.heap.size = w8.heap.size + 1 + 1) := by omega
  have hki2 : w4.heap.size < w8.heap.size + 1 + 1 := by omega
  have hno0 : ¬ (w5.heap.size = w8.heap.size) := by omega
  have hno1 : ¬ (w5.heap.size = w8.heap.size + 1) := by omega
  have hko1 : w5.heap.size < w8.heap.size + 1 := by omega
  have hno2 : ¬ (w5.heap.size = w8.heap.size + 1 + 1) := by omega
  have hko2 : w5.heap.size < w8.heap.size + 1 + 1 := by omega
  have hnl10 : ¬ (w6.heap.size = w8.heap.size) := by omega
  have hnl11 : ¬ (w6.heap.size = w8.heap.size + 1) := by omega
  have hkl11 : w6.heap.size < w8.heap.size + 1 := by omega
  have hnl12 : ¬ (w6.heap.size = w8.heap.size + 1 + 1) := by omega
  have hkl12 : w6.heap.size < w8.heap.size + 1 + 1 := by omega
  have hnx10 : ¬ (w6.heap.size + 1 = w8.heap.size) := by omega
  have hkx11 : w6.heap.size < w8.heap.size := by omega
  have hnl20 : ¬ (w7.heap.size = w8.heap.size) := by omega
  have hnl21 : ¬ (w7.heap.size = w8.heap.size + 1) := by omega
  have hkl21 : w7.heap.size < w8.heap.size + 1 := by omega
  have hnl22 : ¬ (w7.heap.size = w8.heap.size + 1 + 1) := by omega
  have hkl22 : w7.heap.size < w8.heap.size + 1 + 1 := by omega
  have hnx20 : ¬ (w7.heap.size + 1 = w8.heap.size) := by omega
  have hkx21 : w7.heap.size < w8.heap.size := by omega
  have hB := hB'; clear hB'
  have hsz := hB.size
  go_wp2_with fail
  ((with_reducible refine (right_c y (s &&& q) _ _ _).mono ?_); rintro _ w9 ⟨rfl, hb⟩)
  have T : w9.cell? ⟨w.heap.size, 0, none⟩ = some (B8 x) ∧ w9.cell? ⟨w.heap.size, 1, none⟩ = some (B8 t) ∧ w9.cell? ⟨w.heap.size + 1, 0, none⟩ = some (B8 y) ∧ w9.cell? ⟨w.heap.size + 1, 1, none⟩ = some (B8 s) ∧ w9.cell? ⟨w1.heap.size, 0, none⟩ = some (B8 x) ∧ w9.cell? ⟨w1.heap.size, 1, none⟩ = some (B8 (t &&& p)) ∧ w9.cell? ⟨w2.heap.size, 0, none⟩ = some (B8 y) ∧ w9.cell? ⟨w2.heap.size, 1, none⟩ = some (B8 (s &&& q)) ∧ w9.cell? ⟨w4.heap.size, 0, none⟩ = some (.bool (bitAt x (k8 z))) ∧ w9.cell? ⟨w4.heap.size, 1, none⟩ = some (.bool (bitAt t (k8 z))) ∧ w9.cell? ⟨w5.heap.size, 0, none⟩ = some (.bool (bitAt x (k8 z))) ∧ w9.cell? ⟨w5.heap.size, 1, none⟩ = some (.bool (bitAt (t &&& p) (k8 z))) ∧ w9.cell? ⟨w6.heap.size, 0, none⟩ = some (B8 (setB (y <<< 1) 0 (bitAt x (k8 z)))) ∧ w9.cell? ⟨w6.heap.size, 1, none⟩ = some (B8 (setB (s <<< 1) 0 (bitAt t (k8 z)))) ∧ w9.cell? ⟨w6.heap.size + 1, 0, none⟩ = some (.bool (bitAt y 7)) ∧ w9.cell? ⟨w6.heap.size + 1, 1, none⟩ = some (.bool (bitAt s 7)) ∧ w9.cell? ⟨w7.heap.size, 0, none⟩ = some (B8 (setB (y <<< 1) 0 (bitAt x (k8 z)))) ∧ w9.cell? ⟨w7.heap.size, 1, none⟩ = some (B8 (setB ((s &&& q) <<< 1) 0 (bitAt (t &&& p) (k8 z)))) ∧ w9.cell? ⟨w7.heap.size + 1, 0, none⟩ = some (.bool (bitAt y 7)) ∧ w9.cell? ⟨w7.heap.size + 1, 1, none⟩ = some (.bool (bitAt (s &&& q) 7)) ∧ w9.cell? ⟨w8.heap.size, 0, none⟩ = some (B8 (setB (y >>> 1) 7 (bitAt x (k8 z)))) ∧ w9.cell? ⟨w8.heap.size, 1, none⟩ = some (B8 (setB (s >>> 1) 7 (bitAt t (k8 z)))) ∧ w9.cell? ⟨w8.heap.size + 1, 0, none⟩ = some (.bool (bitAt y 0)) ∧ w9.cell? ⟨w8.heap.size + 1, 1, none⟩ = some (.bool (bitAt s 0)) := by
      refine ⟨?_, ?_, ?_, ?_, ?_, ?_, ?_, ?_, ?_, ?_, ?_, ?_, ?_, ?_, ?_, ?_, ?_, ?_, ?_, ?_, ?_, ?_, ?_, ?_⟩ <;> refine kc hb ?_ <;> (go_simp; first | done | rfl)
  have hz := hb.size
  (try simp only [World.size_alloc, World.size_setCell, World.size_drew] at hz)
  have hla' : w.heap.size < w9.heap.size := by omega
  have hlb' : w.heap.size + 1 < w9.heap.size := by omega
  have hlc' : w1.heap.size < w9.heap.size := by omega
  have hld' : w2.heap.size < w9.heap.size := by omega
  have hli' : w4.heap.size < w9.heap.size := by omega
  have hlo' : w5.heap.size < w9.heap.size := by omega
  have hll1' : w6.heap.size < w9.heap.size := by omega
  have hlx1' : w6.heap.size + 1 < w9.heap.size := by omega
  have hll2' : w7.heap.size < w9.heap.size := by omega
  have hlx2' : w7.heap.size + 1 < w9.heap.size := by omega
  have hlr1' : w8.heap.size < w9.heap.size := by omega
  have hly1' : w8.heap.size + 1 < w9.heap.size := by omega
  have hB' : Below w.heap.size w w9 := by
      refine kb ?_ hb
      go_grown
  clear ha_0 ha_1 hb_0 hb_1 hc_0 hc_1 hd_0 hd_1 hi_0 hi_1 ho_0 ho_1 hl1_0 hl1_1 hx1_0 hx1_1 hl2_0 hl2_1 hx2_0 hx2_1 hla hlb hlc hld hli hlo hll1 hlx1 hll2 hlx2 hna0 hna1 hka1 hna2 hka2 hnb0 hkb1 hnc0 hnc1 hkc1 hnc2 hkc2 hnd0 hnd1 hkd1 hnd2 hkd2 hni0 hni1 hki1 hni2 hki2 hno0 hno1 hko1 hno2 hko2 hnl10 hnl11 hkl11 hnl12 hkl12 hnx10 hkx11 hnl20 hnl21 hkl21 hnl22 hkl22 hnx20 hkx21 hB hsz
  clear hb hz
  obtain ⟨ha_0, ha_1, hb_0, hb_1, hc_0, hc_1, hd_0, hd_1, hi_0, hi_1, ho_0, ho_1, hl1_0, hl1_1, hx1_0, hx1_1, hl2_0, hl2_1, hx2_0, hx2_1, hr1_0, hr1_1, hy1_0, hy1_1⟩ := T
  have hla := hla'; clear hla'
  have hlb := hlb'; clear hlb'
  have hlc := hlc'; clear hlc'
  have hld := hld'; clear hld'
  have hli := hli'; clear hli'
  have hlo := hlo'; clear hlo'
  have hll1 := hll1'; clear hll1'
  have hlx1 := hlx1'; clear hlx1'
  have hll2 := hll2'; clear hll2'
  have hlx2 := hlx2'; clear hlx2'
  have hlr1 := hlr1'; clear hlr1'
  have hly1 := hly1'; clear hly1'
  have hna0 : ¬ (w.heap.size = w9.heap.size) := by omega
  have hna1 : ¬ (w.heap.size = w9.heap.size + 1) := by omega
  have hka1 : w.heap.size < w9.heap.size + 1 := by omega
  have hna2 : ¬ (w.heap.size = w9.heap.size + 1 + 1) := by omega
  have hka2 : w.heap.size < w9.heap.size + 1 + 1 := by omega
  have hnb0 : ¬ (w.heap.size + 1 = w9.heap.size) := by omega
  have hkb1 : w.heap.size < w9.heap.size := by omega
  have hnc0 : ¬ (w1.heap.size = w9.heap.size) := by omega
  have hnc1 : ¬ (w1.heap.size = w9.heap.size + 1) := by omega
  have hkc1 : w1.heap.size < w9.heap.size + 1 := by omega
  have hnc2 : ¬ (w1.heap.size = w9.heap.size + 1 + 1) := by omega
  have hkc2 : w1.heap.size < w9.heap.size + 1 + 1 := by omega
  have hnd0 : ¬ (w2.heap.size = w9.heap.size) := by omega
  have hnd1 : ¬ (w2.heap.size = w9.heap.size + 1) := by omega
  have hkd1 : w2.heap.size < w9.heap.size + 1 := by omega
  have hnd2 : ¬ (w2.heap.size = w9.heap.size + 1 + 1) := by omega
  have hkd2 : w2.heap.size < w9.heap.size + 1 + 1 := by omega
  have hni0 : ¬ (w4.heap.size = w9.heap.size) := by omega
  have hni1 : ¬ (w4.heap.size = w9.heap.size + 1) := by omega
  have hki1 : w4.heap.size < w9.heap.size + 1 := by omega
  have hni2 : ¬ (w4.heap.size = w9.heap.size + 1 + 1) := by omega
  have hki2 : w4.heap.size < w9.heap.size + 1 + 1 := by omega
  have hno0 : ¬ (w5.heap.size = w9.heap.size) := by omega
  have hno1 : ¬ (w5.heap.size = w9.heap.size + 1) := by omega
  have hko1 : w5.heap.size < w9.heap.size + 1 := by omega
  have hno2 : ¬ (w5.heap.size = w9.heap.size + 1 + 1) := by omega
  have hko2 : w5.heap.size < w9.heap.size + 1 + 1 := by omega
  have hnl10 : ¬ (w6.heap.size = w9.heap.size) := by omega
  have hnl11 : ¬ (w6.heap.size = w9.heap.size + 1) := by omega
  have hkl11 : w6.heap.size < w9.heap.size + 1 := by omega
  have hnl12 : ¬ (w6.heap.size = w9.heap.size + 1 + 1) := by omega
  have hkl12 : w6.heap.size < w9.heap.size + 1 + 1 := by omega
  have hnx10 : ¬ (w6.heap.size + 1 = w9.heap.size) := by omega
  have hkx11 : w6.heap.size < w9.heap.size := by omega
  have hnl20 : ¬ (w7.heap.size = w9.heap.size) := by omega
  have hnl21 : ¬ (w7.heap.size = w9.heap.size + 1) := by omega
  have hkl21 : w7.heap.size < w9.heap.size + 1 := by omega
  have hnl22 : ¬ (w7.heap.size = w9.heap.size + 1 + 1) := by omega
  have hkl22 : w7.heap.size < w9.heap.size + 1 + 1 := by omega
  have hnx20 : ¬ (w7.heap.size + 1 = w9.heap.size) := by omega
  have hkx21 : w7.heap.size < w9.heap.size := by omega
  have hnr10 : ¬ (w8.heap.size = w9.heap.size) := by omega
  have hnr11 : ¬ (w8.heap.size = w9.heap.size + 1) := by omega
  have hkr11 : w8.heap.size < w9.heap.size + 1 := by omega
  have hnr12 : ¬ (w8.heap.size = w9.heap.size + 1 + 1) := by omega
  have hkr12 : w8.heap.size < w9.heap.size + 1 + 1 := by omega
  have hny10 : ¬ (w8.heap.size + 1 = w9.heap.size) := by omega
  have hky11 : w8.heap.size < w9.heap.size := by omega
  have hB := hB'; clear hB'
  have hsz := hB.size
  go_wp2_with fail
  ((with_reducible refine (zero_n x t _).mono ?_); rintro _ w10 ⟨rfl, hb⟩)
  have T : w10.cell? ⟨w.heap.size, 0, none⟩ = some (B8 x) ∧ w10.cell? ⟨w.heap.size, 1, none⟩ = some (B8 t) ∧ w10.cell? ⟨w1.heap.size, 0, none⟩ = some (B8 x) ∧ w10.cell? ⟨w1.heap.size, 1, none⟩ = some (B8 (t &&& p)) ∧ w10.cell? ⟨w6.heap.size, 0, none⟩ = some (B8 (setB (y <<< 1) 0 (bitAt x (k8 z)))) ∧ w10.cell? ⟨w6.heap.size, 1, none⟩ = some (B8 (setB (s <<< 1) 0 (bitAt t (k8 z)))) ∧ w10.cell? ⟨w6.heap.size + 1, 0, none⟩ = some (.bool (bitAt y 7)) ∧ w10.cell? ⟨w6.heap.size + 1, 1, none⟩ = some (.bool (bitAt s 7)) ∧ w10.cell? ⟨w7.heap.size, 0, none⟩ = some (B8 (setB (y <<< 1) 0 (bitAt x (k8 z)))) ∧ w10.cell? ⟨w7.heap.size, 1, none⟩ = some (B8 (setB ((s &&& q) <<< 1) 0 (bitAt (t &&& p) (k8 z)))) ∧ w10.cell? ⟨w7.heap.size + 1, 0, none⟩ = some (.bool (bitAt y 7)) ∧ w10.cell? ⟨w7.heap.size + 1, 1, none⟩ = some (.bool (bitAt (s &&& q) 7)) ∧ w10.cell? ⟨w8.heap.size, 0, none⟩ = some (B8 (setB (y >>> 1) 7 (bitAt x (k8 z)))) ∧ w10.cell? ⟨w8.heap.size, 1, none⟩ = some (B8 (setB (s >>> 1) 7 (bitAt t (k8 z)))) ∧ w10.cell? ⟨w8.heap.size + 1, 0, none⟩ = some (.bool (bitAt y 0)) ∧ w10.cell? ⟨w8.heap.size + 1, 1, none⟩ = some (.bool (bitAt s 0)) ∧ w10.cell? ⟨w9.heap.size, 0, none⟩ = some (B8 (setB (y >>> 1) 7 (bitAt x (k8 z)))) ∧ w10.cell? ⟨w9.heap.size, 1, none⟩ = some (B8 (setB ((s &&& q) >>> 1) 7 (bitAt (t &&& p) (k8 z)))) ∧ w10.cell? ⟨w9.heap.size + 1, 0, none⟩ = some (.bool (bitAt y 0)) ∧ w10.cell? ⟨w9.heap.size + 1, 1, none⟩ = some (.bool (bitAt (s &&& q) 0)) := by
      refine ⟨?_, ?_, ?_, ?_, ?_, ?_, ?_, ?_, ?_, ?_, ?_, ?_, ?_, ?_, ?_, ?_, ?_, ?_, ?_, ?_⟩ <;> refine kc hb ?_ <;> (go_simp; first | done | rfl)
  have hz := hb.size
  (try simp only [World.size_alloc, World.size_setCell, World.size_drew] at hz)
  have hla' : w.heap.size < w10.heap.size := by omega
  have hlc' : w1.heap.size < w10.heap.size := by omega
  have hll1' : w6.heap.size < w10.heap.size := by omega
  have hlx1' : w6.heap.size + 1 < w10.heap.size := by omega
  have hll2' : w7.heap.size < w10.heap.size := by omega
  have hlx2' : w7.heap.size + 1 < w10.heap.size := by omega
  have hlr1' : w8.heap.size < w10.heap.size := by omega
  have hly1' : w8.heap.size + 1 < w10.heap.size := by omega
  have hlr2' : w9.heap.size < w10.heap.size := by omega
  have hly2' : w9.heap.size + 1 < w10.heap.size := by omega
  have hB' : Below w.heap.size w w10 := by
      refine kb ?_ hb
      go_grown
  clear ha_0 ha_1 hb_0 hb_1 hc_0 hc_1 hd_0 hd_1 hi_0 hi_1 ho_0 ho_1 hl1_0 hl1_1 hx1_0 hx1_1 hl2_0 hl2_1 hx2_0 hx2_1 hr1_0 hr1_1 hy1_0 hy1_1 hla hlb hlc hld hli hlo hll1 hlx1 hll2 hlx2 hlr1 hly1 hna0 hna1 hka1 hna2 hka2 hnb0 hkb1 hnc0 hnc1 hkc1 hnc2 hkc2 hnd0 hnd1 hkd1 hnd2 hkd2 hni0 hni1 hki1 hni2 hki2 hno0 hno1 hko1 hno2 hko2 hnl10 hnl11 hkl11 hnl12 hkl12 hnx10 hkx11 hnl20 hnl21 hkl21 hnl22 hkl22 hnx20 hkx21 hnr10 hnr11 hkr11 hnr12 hkr12 hny10 hky11 hB hsz
  clear hb hz
  obtain ⟨ha_0, ha_1, hc_0, hc_1, hl1_0, hl1_1, hx1_0, hx1_1, hl2_0, hl2_1, hx2_0, hx2_1, hr1_0, hr1_1, hy1_0, hy1_1, hr2_0, hr2_1, hy2_0, hy2_1⟩ := T
  have hla := hla'; clear hla'
  have hlc := hlc'; clear hlc'
  have hll1 := hll1'; clear hll1'
  have hlx1 := hlx1'; clear hlx1'
  have hll2 := hll2'; clear hll2'
  have hlx2 := hlx2'; clear hlx2'
  have hlr1 := hlr1'; clear hlr1'
  have hly1 := hly1'; clear hly1'
  have hlr2 := hlr2'; clear hlr2'
  have hly2 := hly2'; clear hly2'
  have hna0 : ¬ (w.heap.size = w10.heap.size) := by omega
  have hna1 : ¬ (w.heap.size = w10.heap.size + 1) := by omega
  have hka1 : w.heap.size < w10.heap.size + 1 := by omega
  have hna2 : ¬ (w.heap.size = w10.heap.size + 1 + 1) := by omega
  have hka2 : w.heap.size < w10.heap.size + 1 + 1 := by omega
  have hnc0 : ¬ (w1.heap.size = w10.heap.size) := by omega
  have hnc1 : ¬ (w1.heap.size = w10.heap.size + 1) := by omega
  have hkc1 : w1.heap.size < w10.heap.size + 1 := by omega
  have hnc2 : ¬ (w1.heap.size = w10.heap.size + 1 + 1) := by omega
  have hkc2 : w1.heap.size < w10.heap.size + 1 + 1 := by omega
  have hnl10 : ¬ (w6.heap.size = w10.heap.size) := by omega
  have hnl11 : ¬ (w6.heap.size = w10.heap.size + 1) := by omega
  have hkl11 : w6.heap.size < w10.heap.size + 1 := by omega
  have hnl12 : ¬ (w6.heap.size = w10.heap.size + 1 + 1) := by omega
  have hkl12 : w6.heap.size < w10.heap.size + 1 + 1 := by omega
  have hnx10 : ¬ (w6.heap.size + 1 = w10.heap.size) := by omega
  have hkx11 : w6.heap.size < w10.heap.size := by omega
  have hnl20 : ¬ (w7.heap.size = w10.heap.size) := by omega
  have hnl21 : ¬ (w7.heap.size = w10.heap.size + 1) := by omega
  have hkl21 : w7.heap.size < w10.heap.size + 1 := by omega
  have hnl22 : ¬ (w7.heap.size = w10.heap.size + 1 + 1) := by omega
  have hkl22 : w7.heap.size < w10.heap.size + 1 + 1 := by omega
  have hnx20 : ¬ (w7.heap.size + 1 = w10.heap.size) := by omega
  have hkx21 : w7.heap.size < w10.heap.size := by omega
  have hnr10 : ¬ (w8.heap.size = w10.heap.size) := by omega
  have hnr11 : ¬ (w8.heap.size = w10.heap.size + 1) := by omega
  have hkr11 : w8.heap.size < w10.heap.size + 1 := by omega
  have hnr12 : ¬ (w8.heap.size = w10.heap.size + 1 + 1) := by omega
  have hkr12 : w8.heap.size < w10.heap.size + 1 + 1 := by omega
  have hny10 : ¬ (w8.heap.size + 1 = w10.heap.size) := by omega
  have hky11 : w8.heap.size < w10.heap.size := by omega
  have hnr20 : ¬ (w9.heap.size = w10.heap.size) := by omega
  have hnr21 : ¬ (w9.heap.size = w10.heap.size + 1) := by omega
  have hkr21 : w9.heap.size < w10.heap.size + 1 := by omega
  have hnr22 : ¬ (w9.heap.size = w10.heap.size + 1 + 1) := by omega
  have hkr22 : w9.heap.size < w10.heap.size + 1 + 1 := by omega
  have hny20 : ¬ (w9.heap.size + 1 = w10.heap.size) := by omega
  have hky21 : w9.heap.size < w10.heap.size := by omega
  have hB := hB'; clear hB'
  have hsz := hB.size
  go_wp2_with fail
  ((with_reducible refine (zero_n x (t &&& p) _).mono ?_); rintro _ w11 ⟨rfl, hb⟩)
  have T : w11.cell? ⟨w.heap.size, 0, none⟩ = some (B8 x) ∧ w11.cell? ⟨w.heap.size, 1, none⟩ = some (B8 t) ∧ w11.cell? ⟨w1.heap.size, 0, none⟩ = some (B8 x) ∧ w11.cell? ⟨w1.heap.size, 1, none⟩ = some (B8 (t &&& p)) ∧ w11.cell? ⟨w6.heap.size, 0, none⟩ = some (B8 (setB (y <<< 1) 0 (bitAt x (k8 z)))) ∧ w11.cell? ⟨w6.heap.size, 1, none⟩ = some (B8 (setB (s <<< 1) 0 (bitAt t (k8 z)))) ∧ w11.cell? ⟨w6.heap.size + 1, 0, none⟩ = some (.bool (bitAt y 7)) ∧ w11.cell? ⟨w6.heap.size + 1, 1, none⟩ = some (.bool (bitAt s 7)) ∧ w11.cell? ⟨w7.heap.size, 0, none⟩ = some (B8 (setB (y <<< 1) 0 (bitAt x (k8 z)))) ∧ w11.cell? ⟨w7.heap.size, 1, none⟩ = some (B8 (setB ((s &&& q) <<< 1) 0 (bitAt (t &&& p) (k8 z)))) ∧ w11.cell? ⟨w7.heap.size + 1, 0, none⟩ = some (.bool (bitAt y 7)) ∧ w11.cell? ⟨w7.heap.size + 1, 1, none⟩ = some (.bool (bitAt (s &&& q) 7)) ∧ w11.cell? ⟨w8.heap.size, 0, none⟩ = some (B8 (setB (y >>> 1) 7 (bitAt x (k8 z)))) ∧ w11.cell? ⟨w8.heap.size, 1, none⟩ = some (B8 (setB (s >>> 1) 7 (bitAt t (k8 z)))) ∧ w11.cell? ⟨w8.heap.size + 1, 0, none⟩ = some (.bool (bitAt y 0)) ∧ w11.cell? ⟨w8.heap.size + 1, 1, none⟩ = some (.bool (bitAt s 0)) ∧ w11.cell? ⟨w9.heap.size, 0, none⟩ = some (B8 (setB (y >>> 1) 7 (bitAt x (k8 z)))) ∧ w11.cell? ⟨w9.heap.size, 1, none⟩ = some (B8 (setB ((s &&& q) >>> 1) 7 (bitAt (t &&& p) (k8 z)))) ∧ w11.cell? ⟨w9.heap.size + 1, 0, none⟩ = some (.bool (bitAt y 0)) ∧ w11.cell? ⟨w9.heap.size + 1, 1, none⟩ = some (.bool (bitAt (s &&& q) 0)) ∧ w11.cell? ⟨w10.heap.size, 0, none⟩ = some (.bool (x == 0#8)) ∧ w11.cell? ⟨w10.heap.size, 1, none⟩ = some (.bool (zT x t)) := by
      refine ⟨?_, ?_, ?_, ?_, ?_, ?_, ?_, ?_, ?_, ?_, ?_, ?_, ?_, ?_, ?_, ?_, ?_, ?_, ?_, ?_, ?_, ?_⟩ <;> refine kc hb ?_ <;> (go_simp; first | done | rfl)
  have hz := hb.size
  (try simp only [World.size_alloc, World.size_setCell, World.size_drew] at hz)
  have hla' : w.heap.size < w11.heap.size := by omega
  have hlc' : w1.heap.size < w11.heap.size := by omega
  have hll1' : w6.heap.size < w11.heap.size := by omega
  have hlx1' : w6.heap.size + 1 < w11.heap.size := by omega
  have hll2' : w7.heap.size < w11.heap.size := by omega
  have hlx2' : w7.heap.size + 1 < w11.heap.size := by omega
  have hlr1' : w8.heap.size < w11.heap.size := by omega
  have hly1' : w8.heap.size + 1 < w11.heap.size := by omega
  have hlr2' : w9.heap.size < w11.heap.size := by omega
  have hly2' : w9.heap.size + 1 < w11.heap.size := by omega
  have hlz1' : w10.heap.size < w11.heap.size := by omega
  have hB' : Below w.heap.size w w11 := by
      refine kb ?_ hb
      go_grown
  clear ha_0 ha_1 hc_0 hc_1 hl1_0 hl1_1 hx1_0 hx1_1 hl2_0 hl2_1 hx2_0 hx2_1 hr1_0 hr1_1 hy1_0 hy1_1 hr2_0 hr2_1 hy2_0 hy2_1 hla hlc hll1 hlx1 hll2 hlx2 hlr1 hly1 hlr2 hly2 hna0 hna1 hka1 hna2 hka2 hnc0 hnc1 hkc1 hnc2 hkc2 hnl10 hnl11 hkl11 hnl12 hkl12 hnx10 hkx11 hnl20 hnl21 hkl21 hnl22 hkl22 hnx20 hkx21 hnr10 hnr11 hkr11 hnr12 hkr12 hny10 hky11 hnr20 hnr21 hkr21 hnr22 hkr22 hny20 hky21 hB hsz
  clear hb hz
  obtain ⟨ha_0, ha_1, hc_0, hc_1, hl1_0, hl1_1, hx1_0, hx1_1, hl2_0, hl2_1, hx2_0, hx2_1, hr1_0, hr1_1, hy1_0, hy1_1, hr2_0, hr2_1, hy2_0, hy2_1, hz1_0, hz1_1⟩ := T
  have hla := hla'; clear hla'
  have hlc := hlc'; clear hlc'
  have hll1 := hll1'; clear hll1'
  have hlx1 := hlx1'; clear hlx1'
  have hll2 := hll2'; clear hll2'
  have hlx2 := hlx2'; clear hlx2'
  have hlr1 := hlr1'; clear hlr1'
  have hly1 := hly1'; clear hly1'
  have hlr2 := hlr2'; clear hlr2'
  have hly2 := hly2'; clear hly2'
  have hlz1 := hlz1'; clear hlz1'
  have hna0 : ¬ (w.heap.size = w11.heap.size) := by omega
  have hna1 : ¬ (w.heap.size = w11.heap.size + 1) := by omega
  have hka1 : w.heap.size < w11.heap.size + 1 := by omega
  have hna2 : ¬ (w.heap.size = w11.heap.size + 1 + 1) := by omega
  have hka2 : w.heap.size < w11.heap.size + 1 + 1 := by omega
  have hnc0 : ¬ (w1.heap.size = w11.heap.size) := by omega
  have hnc1 : ¬ (w1.heap.size = w11.heap.size + 1) := by omega
  have hkc1 : w1.heap.size < w11.heap.size + 1 := by omega
  have hnc2 : ¬ (w1.heap.size = w11.heap.size + 1 + 1) := by omega
  have hkc2 : w1.heap.size < w11.heap.size + 1 + 1 := by omega
  have hnl10 : ¬ (w6.heap.size = w11.heap.size) := by omega
  have hnl11 : ¬ (w6.heap.size = w11.heap.size + 1) := by omega
  have hkl11 : w6.heap.size < w11.heap.size + 1 := by omega
  have hnl12 : ¬ (w6.heap.size = w11.heap.size + 1 + 1) := by omega
  have hkl12 : w6.heap.size < w11.heap.size + 1 + 1 := by omega
  have hnx10 : ¬ (w6.heap.size + 1 = w11.heap.size) := by omega
  have hkx11 : w6.heap.size < w11.heap.size := by omega
  have hnl20 : ¬ (w7.heap.size = w11.heap.size) := by omega
  have hnl21 : ¬ (w7.heap.size = w11.heap.size + 1) := by omega
  have hkl21 : w7.heap.size < w11.heap.size + 1 := by omega
  have hnl22 : ¬ (w7.heap.size = w11.heap.size + 1 + 1) := by omega
  have hkl22 : w7.heap.size < w11.heap.size + 1 + 1 := by omega
  have hnx20 : ¬ (w7.heap.size + 1 = w11.heap.size) := by omega
  have hkx21 : w7.heap.size < w11.heap.size := by omega
  have hnr10 : ¬ (w8.heap.size = w11.heap.size) := by omega
  have hnr11 : ¬ (w8.heap.size = w11.heap.size + 1) := by omega
  have hkr11 : w8.heap.size < w11.heap.size + 1 := by omega
  have hnr12 : ¬ (w8.heap.size = w11.heap.size + 1 + 1) := by omega
  have hkr12 : w8.heap.size < w11.heap.size + 1 + 1 := by omega
  have hny10 : ¬ (w8.heap.size + 1 = w11.heap.size) := by omega
  have hky11 : w8.heap.size < w11.heap.size := by omega
  have hnr20 : ¬ (w9.heap.size = w11.heap.size) := by omega
  have hnr21 : ¬ (w9.heap.size = w11.heap.size + 1) := by omega
  have hkr21 : w9.heap.size < w11.heap.size + 1 := by omega
  have hnr22 : ¬ (w9.heap.size = w11.heap.size + 1 + 1) := by omega
  have hkr22 : w9.heap.size < w11.heap.size + 1 + 1 := by omega
  have hny20 : ¬ (w9.heap.size + 1 = w11.heap.size) := by omega
  have hky21 : w9.heap.size < w11.heap.size := by omega
  have hnz10 : ¬ (w10.heap.size = w11.heap.size) := by omega
  have hnz11 : ¬ (w10.heap.size = w11.heap.size + 1) := by omega
  have hkz11 : w10.heap.size < w11.heap.size + 1 := by omega
  have hnz12 : ¬ (w10.heap.size = w11.heap.size + 1 + 1) := by omega
  have hkz12 : w10.heap.size < w11.heap.size + 1 + 1 := by omega
  have hB := hB'; clear hB'
  have hsz := hB.size
  go_upto_region 13 with (fail)
  have key7 : (bitAt (s &&& q) 7 = false) ∨ (bitAt (s &&& q) 7 = true ∧ bitAt s 7 = true) := by
    cases h : bitAt (s &&& q) 7
    · exact Or.inl rfl
    · exact Or.inr ⟨rfl, bit_fewer s q 7 h⟩
  have key0 : (bitAt (s &&& q) 0 = false) ∨ (bitAt (s &&& q) 0 = true ∧ bitAt s 0 = true) := by
    cases h : bitAt (s &&& q) 0
    · exact Or.inl rfl
    · exact Or.inr ⟨rfl, bit_fewer s q 0 h⟩
  have keyz : (zT x (t &&& p) = false) ∨ (zT x (t &&& p) = true ∧ zT x t = true) := by
    cases h : zT x (t &&& p)
    · exact Or.inl rfl
    · exact Or.inr ⟨rfl, zT_fewer x t p h⟩
  have hsp := spr_fewer t p
  clear z0 z1 z2 z3
  rcases key7 with k7 | ⟨k7, o7⟩ <;> rcases key0 with k0 | ⟨k0, o0⟩ <;> rcases keyz with kz | ⟨kz, oz⟩
  all_goals
    refine wp_region_plan (fun w' => w'.cell? ⟨w.heap.size, 0, none⟩ = some (B8 x) ∧ w'.cell? ⟨w.heap.size, 1, none⟩ = some (B8 t) ∧ w'.cell? ⟨w1.heap.size, 0, none⟩ = some (B8 x) ∧ w'.cell? ⟨w1.heap.size, 1, none⟩ = some (B8 (t &&& p)) ∧ w'.cell? ⟨w6.heap.size, 0, none⟩ = some (B8 (setB (y <<< 1) 0 (bitAt x (k8 z)))) ∧ w'.cell? ⟨w6.heap.size, 1, none⟩ = some (B8 (setB (s <<< 1) 0 (bitAt t (k8 z)))) ∧ w'.cell? ⟨w6.heap.size + 1, 0, none⟩ = some (.bool (bitAt y 7)) ∧ w'.cell? ⟨w6.heap.size + 1, 1, none⟩ = some (.bool (bitAt s 7)) ∧ w'.cell? ⟨w7.heap.size, 0, none⟩ = some (B8 (setB (y <<< 1) 0 (bitAt x (k8 z)))) ∧ w'.cell? ⟨w7.heap.size, 1, none⟩ = some (B8 (setB ((s &&& q) <<< 1) 0 (bitAt (t &&& p) (k8 z)))) ∧ w'.cell? ⟨w7.heap.size + 1, 0, none⟩ = some (.bool (bitAt y 7)) ∧ w'.cell? ⟨w7.heap.size + 1, 1, none⟩ = some (.bool (bitAt (s &&& q) 7)) ∧ w'.cell? ⟨w8.heap.size, 0, none⟩ = some (B8 (setB (y >>> 1) 7 (bitAt x (k8 z)))) ∧ w'.cell? ⟨w8.heap.size, 1, none⟩ = some (B8 (setB (s >>> 1) 7 (bitAt t (k8 z)))) ∧ w'.cell? ⟨w8.heap.size + 1, 0, none⟩ = some (.bool (bitAt y 0)) ∧ w'.cell? ⟨w8.heap.size + 1, 1, none⟩ = some (.bool (bitAt s 0)) ∧ w'.cell? ⟨w9.heap.size, 0, none⟩ = some (B8 (setB (y >>> 1) 7 (bitAt x (k8 z)))) ∧ w'.cell? ⟨w9.heap.size, 1, none⟩ = some (B8 (setB ((s &&& q) >>> 1) 7 (bitAt (t &&& p) (k8 z)))) ∧ w'.cell? ⟨w9.heap.size + 1, 0, none⟩ = some (.bool (bitAt y 0)) ∧ w'.cell? ⟨w9.heap.size + 1, 1, none⟩ = some (.bool (bitAt (s &&& q) 0)) ∧ w'.cell? ⟨w10.heap.size, 0, none⟩ = some (.bool (x == 0#8)) ∧ w'.cell? ⟨w10.heap.size, 1, none⟩ = some (.bool (zT x t)) ∧ w'.cell? ⟨w11.heap.size, 0, none⟩ = some (.bool (x == 0#8)) ∧ w'.cell? ⟨w11.heap.size, 1, none⟩ = some (.bool (zT x (t &&& p))) ∧ Below w.heap.size w w') (by kernel_rfl) (by kernel_rfl) (by kernel_rfl) ?_ ?_
    · (try dsimp only)
      refine ⟨?_, ?_, ?_, ?_, ?_, ?_, ?_, ?_, ?_, ?_, ?_, ?_, ?_, ?_, ?_, ?_, ?_, ?_, ?_, ?_, ?_, ?_, ?_, ?_, ?_⟩ <;> first | (go_simp; done) | (simp [*]; done) | go_grown
    repeat (first
      | (refine Plan.val (v := ?_) ?_ ?_ ?_; rotate_left; (· rfl); (· (intro W hSw; (try dsimp only at hSw); go_simp; all_goals (first | (with_reducible rfl) | (constructor <;> (with_reducible rfl))))); (try simp only [Act.put, List.setIfInBounds_toArray, List.set_cons_zero, List.set_cons_succ]))
      | (refine Plan.no ?_ ?_; (· rfl); (try simp only [Act.put, List.setIfInBounds_toArray, List.set_cons_zero, List.set_cons_succ]))
      | (refine Plan.call (v := ?_) (f := ?_) (args := ?_) ?_ ?_ ?_ ?_; rotate_left 3; (· rfl); (· (intro W hSw; (try dsimp only at hSw); go_simp; all_goals (first | (with_reducible rfl) | (constructor <;> (with_reducible rfl))))); (· (intro W hSw; (try dsimp only at hSw); first | (go_at_call 34; ((with_reducible refine (within_left _ _ _ _ _ _ _ _).mono ?_); rintro _ wz ⟨rfl, hb⟩; (refine ⟨?_, ?_⟩; (· with_reducible rfl); exact ⟨kc hb hSw.1, kc hb hSw.2.1, kc hb hSw.2.2.1, kc hb hSw.2.2.2.1, kc hb hSw.2.2.2.2.1, kc hb hSw.2.2.2.2.2.1, kc hb hSw.2.2.2.2.2.2.1, kc hb hSw.2.2.2.2.2.2.2.1, kc hb hSw.2.2.2.2.2.2.2.2.1, kc hb hSw.2.2.2.2.2.2.2.2.2.1, kc hb hSw.2.2.2.2.2.2.2.2.2.2.1, kc hb hSw.2.2.2.2.2.2.2.2.2.2.2.1, kc hb hSw.2.2.2.2.2.2.2.2.2.2.2.2.1, kc hb hSw.2.2.2.2.2.2.2.2.2.2.2.2.2.1, kc hb hSw.2.2.2.2.2.2.2.2.2.2.2.2.2.2.1, kc hb hSw.2.2.2.2.2.2.2.2.2.2.2.2.2.2.2.1, kc hb hSw.2.2.2.2.2.2.2.2.2.2.2.2.2.2.2.2.1, kc hb hSw.2.2.2.2.2.2.2.2.2.2.2.2.2.2.2.2.2.1, kc hb hSw.2.2.2.2.2.2.2.2.2.2.2.2.2.2.2.2.2.2.1, kc hb hSw.2.2.2.2.2.2.2.2.2.2.2.2.2.2.2.2.2.2.2.1, kc hb hSw.2.2.2.2.2.2.2.2.2.2.2.2.2.2.2.2.2.2.2.2.1, kc hb hSw.2.2.2.2.2.2.2.2.2.2.2.2.2.2.2.2.2.2.2.2.2.1, kc hb hSw.2.2.2.2.2.2.2.2.2.2.2.2.2.2.2.2.2.2.2.2.2.2.1, kc hb hSw.2.2.2.2.2.2.2.2.2.2.2.2.2.2.2.2.2.2.2.2.2.2.2.1, kb hSw.2.2.2.2.2.2.2.2.2.2.2.2.2.2.2.2.2.2.2.2.2.2.2.2 hb⟩))) | (go_at_call 34; ((with_reducible refine (within_right _ _ _ _ _ _ _ _).mono ?_); rintro _ wz ⟨rfl, hb⟩; (refine ⟨?_, ?_⟩; (· with_reducible rfl); exact ⟨kc hb hSw.1, kc hb hSw.2.1, kc hb hSw.2.2.1, kc hb hSw.2.2.2.1, kc hb hSw.2.2.2.2.1, kc hb hSw.2.2.2.2.2.1, kc hb hSw.2.2.2.2.2.2.1, kc hb hSw.2.2.2.2.2.2.2.1, kc hb hSw.2.2.2.2.2.2.2.2.1, kc hb hSw.2.2.2.2.2.2.2.2.2.1, kc hb hSw.2.2.2.2.2.2.2.2.2.2.1, kc hb hSw.2.2.2.2.2.2.2.2.2.2.2.1, kc hb hSw.2.2.2.2.2.2.2.2.2.2.2.2.1, kc hb hSw.2.2.2.2.2.2.2.2.2.2.2.2.2.1, kc hb hSw.2.2.2.2.2.2.2.2.2.2.2.2.2.2.1, kc hb hSw.2.2.2.2.2.2.2.2.2.2.2.2.2.2.2.1, kc hb hSw.2.2.2.2.2.2.2.2.2.2.2.2.2.2.2.2.1, kc hb hSw.2.2.2.2.2.2.2.2.2.2.2.2.2.2.2.2.2.1, kc hb hSw.2.2.2.2.2.2.2.2.2.2.2.2.2.2.2.2.2.2.1, kc hb hSw.2.2.2.2.2.2.2.2.2.2.2.2.2.2.2.2.2.2.2.1, kc hb hSw.2.2.2.2.2.2.2.2.2.2.2.2.2.2.2.2.2.2.2.2.1, kc hb hSw.2.2.2.2.2.2.2.2.2.2.2.2.2.2.2.2.2.2.2.2.2.1, kc hb hSw.2.2.2.2.2.2.2.2.2.2.2.2.2.2.2.2.2.2.2.2.2.2.1, kc hb hSw.2.2.2.2.2.2.2.2.2.2.2.2.2.2.2.2.2.2.2.2.2.2.2.1, kb hSw.2.2.2.2.2.2.2.2.2.2.2.2.2.2.2.2.2.2.2.2.2.2.2.2 hb⟩))) | (go_at_call 26; ((with_reducible refine (spread_n _ _).mono ?_); rintro _ wz ⟨rfl, hb⟩; (refine ⟨?_, ?_⟩; (· with_reducible rfl); exact ⟨kc hb hSw.1, kc hb hSw.2.1, kc hb hSw.2.2.1, kc hb hSw.2.2.2.1, kc hb hSw.2.2.2.2.1, kc hb hSw.2.2.2.2.2.1, kc hb hSw.2.2.2.2.2.2.1, kc hb hSw.2.2.2.2.2.2.2.1, kc hb hSw.2.2.2.2.2.2.2.2.1, kc hb hSw.2.2.2.2.2.2.2.2.2.1, kc hb hSw.2.2.2.2.2.2.2.2.2.2.1, kc hb hSw.2.2.2.2.2.2.2.2.2.2.2.1, kc hb hSw.2.2.2.2.2.2.2.2.2.2.2.2.1, kc hb hSw.2.2.2.2.2.2.2.2.2.2.2.2.2.1, kc hb hSw.2.2.2.2.2.2.2.2.2.2.2.2.2.2.1, kc hb hSw.2.2.2.2.2.2.2.2.2.2.2.2.2.2.2.1, kc hb hSw.2.2.2.2.2.2.2.2.2.2.2.2.2.2.2.2.1, kc hb hSw.2.2.2.2.2.2.2.2.2.2.2.2.2.2.2.2.2.1, kc hb hSw.2.2.2.2.2.2.2.2.2.2.2.2.2.2.2.2.2.2.1, kc hb hSw.2.2.2.2.2.2.2.2.2.2.2.2.2.2.2.2.2.2.2.1, kc hb hSw.2.2.2.2.2.2.2.2.2.2.2.2.2.2.2.2.2.2.2.2.1, kc hb hSw.2.2.2.2.2.2.2.2.2.2.2.2.2.2.2.2.2.2.2.2.2.1, kc hb hSw.2.2.2.2.2.2.2.2.2.2.2.2.2.2.2.2.2.2.2.2.2.2.1, kc hb hSw.2.2.2.2.2.2.2.2.2.2.2.2.2.2.2.2.2.2.2.2.2.2.2.1, kb hSw.2.2.2.2.2.2.2.2.2.2.2.2.2.2.2.2.2.2.2.2.2.2.2.2 hb⟩))) | (go_at_call 15; ((with_reducible refine (awake_c _).mono ?_); rintro _ wz ⟨rfl, hb⟩; (refine ⟨?_, ?_⟩; (· with_reducible rfl); exact ⟨kc hb hSw.1, kc hb hSw.2.1, kc hb hSw.2.2.1, kc hb hSw.2.2.2.1, kc hb hSw.2.2.2.2.1, kc hb hSw.2.2.2.2.2.1, kc hb hSw.2.2.2.2.2.2.1, kc hb hSw.2.2.2.2.2.2.2.1, kc hb hSw.2.2.2.2.2.2.2.2.1, kc hb hSw.2.2.2.2.2.2.2.2.2.1, kc hb hSw.2.2.2.2.2.2.2.2.2.2.1, kc hb hSw.2.2.2.2.2.2.2.2.2.2.2.1, kc hb hSw.2.2.2.2.2.2.2.2.2.2.2.2.1, kc hb hSw.2.2.2.2.2.2.2.2.2.2.2.2.2.1, kc hb hSw.2.2.2.2.2.2.2.2.2.2.2.2.2.2.1, kc hb hSw.2.2.2.2.2.2.2.2.2.2.2.2.2.2.2.1, kc hb hSw.2.2.2.2.2.2.2.2.2.2.2.2.2.2.2.2.1, kc hb hSw.2.2.2.2.2.2.2.2.2.2.2.2.2.2.2.2.2.1, kc hb hSw.2.2.2.2.2.2.2.2.2.2.2.2.2.2.2.2.2.2.1, kc hb hSw.2.2.2.2.2.2.2.2.2.2.2.2.2.2.2.2.2.2.2.1, kc hb hSw.2.2.2.2.2.2.2.2.2.2.2.2.2.2.2.2.2.2.2.2.1, kc hb hSw.2.2.2.2.2.2.2.2.2.2.2.2.2.2.2.2.2.2.2.2.2.1, kc hb hSw.2.2.2.2.2.2.2.2.2.2.2.2.2.2.2.2.2.2.2.2.2.2.1, kc hb hSw.2.2.2.2.2.2.2.2.2.2.2.2.2.2.2.2.2.2.2.2.2.2.2.1, kb hSw.2.2.2.2.2.2.2.2.2.2.2.2.2.2.2.2.2.2.2.2.2.2.2.2 hb⟩))))); (try simp only [Act.put, List.setIfInBounds_toArray, List.set_cons_zero, List.set_cons_succ])))
    refine Plan.done ?_
    intro wz T
    (try dsimp only at T)
    have hBe := T.2.2.2.2.2.2.2.2.2.2.2.2.2.2.2.2.2.2.2.2.2.2.2.2
    go_wp2
    go_ret
    exact ⟨rfl, hBe⟩
end Go.Proofs.Ytbbiegbfoimcaaa
