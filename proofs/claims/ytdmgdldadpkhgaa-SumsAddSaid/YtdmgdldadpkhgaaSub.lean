/-
  What sums.Sub comes to, binary and decimal.
-/
import Derived.Test.YtdmgdldadpkhgaaHider
import Derived.Test.YtdmgdldadpkhgaaSubd
set_option linter.unusedSimpArgs false
set_option linter.unusedVariables false
namespace Go.Proofs.Ytdmgdldadpkhgaa
open Go.RowKit

set_option maxRecDepth 100000 in
set_option maxHeartbeats 4000000 in
theorem sub_false (x t y s : BitVec 8) (c ct dt : Bool) (w : World) : Calls Try.prog 15 #[TB x t, TB y s, TBit c ct, TBit false dt] w fun e w' =>
    e = .returned (VS (addV x (~~~y) c) (hidT (secT t s ct) (addV x (~~~y) c).a false dt)) ∧ Below w.heap.size w w' := by
  have hu := u8_or
  have hu' := u8_not'
  have k0 : T0.t = 0#8 := rfl
  have k1 : T0.n = false := rfl
  have k2 : T0.v = false := rfl
  have k3 : T0.z = false := rfl
  have k4 : T0.c = false := rfl
  go_enter_defers Try.func15, Try.ntmps15
  go_wp2_with fail
  ((with_reducible refine (hider_s _ t s _ ct _ _ _).mono ?_); rintro _ w1 ⟨rfl, hb, hp_0, hq_0, he_0, he_1⟩)
  have T : w1.cell? ⟨w.heap.size, 0, none⟩ = some (B8 x) ∧ w1.cell? ⟨w.heap.size, 1, none⟩ = some (B8 t) ∧ w1.cell? ⟨w.heap.size + 1, 0, none⟩ = some (B8 y) ∧ w1.cell? ⟨w.heap.size + 1, 1, none⟩ = some (B8 s) ∧ w1.cell? ⟨w.heap.size + 1 + 1, 0, none⟩ = some (.bool c) ∧ w1.cell? ⟨w.heap.size + 1 + 1, 1, none⟩ = some (.bool ct) ∧ w1.cell? ⟨w.heap.size + 1 + 1 + 1, 0, none⟩ = some (.bool false) ∧ w1.cell? ⟨w.heap.size + 1 + 1 + 1, 1, none⟩ = some (.bool dt) ∧ w1.cell? ⟨w.heap.size + 1 + 1 + 1 + 1, 0, none⟩ = some (.int .u8 0) ∧ w1.frozen? ⟨w.heap.size + 1 + 1 + 1 + 1, 0, none⟩ = false ∧ w1.cell? ⟨w.heap.size + 1 + 1 + 1 + 1, 1, none⟩ = some (.int .u8 0) ∧ w1.frozen? ⟨w.heap.size + 1 + 1 + 1 + 1, 1, none⟩ = false ∧ w1.cell? ⟨w.heap.size + 1 + 1 + 1 + 1, 2, none⟩ = some (.bool false) ∧ w1.frozen? ⟨w.heap.size + 1 + 1 + 1 + 1, 2, none⟩ = false ∧ w1.cell? ⟨w.heap.size + 1 + 1 + 1 + 1, 3, none⟩ = some (.bool false) ∧ w1.frozen? ⟨w.heap.size + 1 + 1 + 1 + 1, 3, none⟩ = false ∧ w1.cell? ⟨w.heap.size + 1 + 1 + 1 + 1, 4, none⟩ = some (.bool false) ∧ w1.frozen? ⟨w.heap.size + 1 + 1 + 1 + 1, 4, none⟩ = false ∧ w1.cell? ⟨w.heap.size + 1 + 1 + 1 + 1, 5, none⟩ = some (.bool false) ∧ w1.frozen? ⟨w.heap.size + 1 + 1 + 1 + 1, 5, none⟩ = false ∧ w1.cell? ⟨w.heap.size + 1 + 1 + 1 + 1, 6, none⟩ = some (.bool false) ∧ w1.frozen? ⟨w.heap.size + 1 + 1 + 1 + 1, 6, none⟩ = false ∧ w1.cell? ⟨w.heap.size + 1 + 1 + 1 + 1, 7, none⟩ = some (.bool false) ∧ w1.frozen? ⟨w.heap.size + 1 + 1 + 1 + 1, 7, none⟩ = false ∧ w1.cell? ⟨w.heap.size + 1 + 1 + 1 + 1, 8, none⟩ = some (.bool false) ∧ w1.frozen? ⟨w.heap.size + 1 + 1 + 1 + 1, 8, none⟩ = false ∧ w1.cell? ⟨w.heap.size + 1 + 1 + 1 + 1, 9, none⟩ = some (.bool false) ∧ w1.frozen? ⟨w.heap.size + 1 + 1 + 1 + 1, 9, none⟩ = false := by
      refine ⟨?_, ?_, ?_, ?_, ?_, ?_, ?_, ?_, ?_, ?_, ?_, ?_, ?_, ?_, ?_, ?_, ?_, ?_, ?_, ?_, ?_, ?_, ?_, ?_, ?_, ?_, ?_, ?_⟩ <;> first | (refine kc hb ?_ <;> (go_simp; first | done | rfl)) | (refine kfz hb ?_ ?_ <;> first | (go_size; done) | (go_simp; done))
  have hz := hb.size
  (try simp only [World.size_alloc, World.size_setCell, World.size_drew] at hz)
  (try simp only [World.size_alloc, World.size_setCell, World.size_drew] at hp_0)
  (try simp only [World.size_alloc, World.size_setCell, World.size_drew] at hq_0)
  (try simp only [World.size_alloc, World.size_setCell, World.size_drew] at he_0)
  (try simp only [World.size_alloc, World.size_setCell, World.size_drew] at he_1)
  have hla' : w.heap.size < w1.heap.size := by omega
  have hlb' : w.heap.size + 1 < w1.heap.size := by omega
  have hlc' : w.heap.size + 1 + 1 < w1.heap.size := by omega
  have hld' : w.heap.size + 1 + 1 + 1 < w1.heap.size := by omega
  have hlr' : w.heap.size + 1 + 1 + 1 + 1 < w1.heap.size := by omega
  have hB' : Below w.heap.size w w1 := by
      refine kb ?_ hb
      go_grown
  clear hb hz
  obtain ⟨ha_0, ha_1, hb_0, hb_1, hc_0, hc_1, hd_0, hd_1, hr_0, fr_0, hr_1, fr_1, hr_2, fr_2, hr_3, fr_3, hr_4, fr_4, hr_5, fr_5, hr_6, fr_6, hr_7, fr_7, hr_8, fr_8, hr_9, fr_9⟩ := T
  have hla := hla'; clear hla'
  have hlb := hlb'; clear hlb'
  have hlc := hlc'; clear hlc'
  have hld := hld'; clear hld'
  have hlr := hlr'; clear hlr'
  have hna0 : ¬ (w.heap.size = w1.heap.size) := by omega
  have hna1 : ¬ (w.heap.size = w1.heap.size + 1) := by omega
  have hka1 : w.heap.size < w1.heap.size + 1 := by omega
  have hna2 : ¬ (w.heap.size = w1.heap.size + 1 + 1) := by omega
  have hka2 : w.heap.size < w1.heap.size + 1 + 1 := by omega
  have hnb0 : ¬ (w.heap.size + 1 = w1.heap.size) := by omega
  have hkb1 : w.heap.size < w1.heap.size := by omega
  have hnc0 : ¬ (w.heap.size + 1 + 1 = w1.heap.size) := by omega
  have hkc1 : w.heap.size + 1 < w1.heap.size := by omega
  have hnd0 : ¬ (w.heap.size + 1 + 1 + 1 = w1.heap.size) := by omega
  have hkd1 : w.heap.size + 1 + 1 < w1.heap.size := by omega
  have hnr0 : ¬ (w.heap.size + 1 + 1 + 1 + 1 = w1.heap.size) := by omega
  have hkr1 : w.heap.size + 1 + 1 + 1 < w1.heap.size := by omega
  have hB := hB'; clear hB'
  have hsz := hB.size
  go_wp2_with fail
  refine wp_region_planT 8 (fun w' => w'.cell? ⟨w.heap.size, 0, none⟩ = some (B8 x) ∧ w'.cell? ⟨w.heap.size, 1, none⟩ = some (B8 t) ∧ w'.cell? ⟨w.heap.size + 1, 0, none⟩ = some (B8 y) ∧ w'.cell? ⟨w.heap.size + 1, 1, none⟩ = some (B8 s) ∧ w'.cell? ⟨w.heap.size + 1 + 1, 0, none⟩ = some (.bool c) ∧ w'.cell? ⟨w.heap.size + 1 + 1, 1, none⟩ = some (.bool ct) ∧ w'.cell? ⟨w.heap.size + 1 + 1 + 1, 0, none⟩ = some (.bool false) ∧ w'.cell? ⟨w.heap.size + 1 + 1 + 1, 1, none⟩ = some (.bool dt) ∧ w'.cell? ⟨w.heap.size + 1 + 1 + 1 + 1, 0, none⟩ = some (.int .u8 0) ∧ w'.frozen? ⟨w.heap.size + 1 + 1 + 1 + 1, 0, none⟩ = false ∧ w'.cell? ⟨w.heap.size + 1 + 1 + 1 + 1, 1, none⟩ = some (.int .u8 0) ∧ w'.frozen? ⟨w.heap.size + 1 + 1 + 1 + 1, 1, none⟩ = false ∧ w'.cell? ⟨w.heap.size + 1 + 1 + 1 + 1, 2, none⟩ = some (.bool false) ∧ w'.frozen? ⟨w.heap.size + 1 + 1 + 1 + 1, 2, none⟩ = false ∧ w'.cell? ⟨w.heap.size + 1 + 1 + 1 + 1, 3, none⟩ = some (.bool false) ∧ w'.frozen? ⟨w.heap.size + 1 + 1 + 1 + 1, 3, none⟩ = false ∧ w'.cell? ⟨w.heap.size + 1 + 1 + 1 + 1, 4, none⟩ = some (.bool false) ∧ w'.frozen? ⟨w.heap.size + 1 + 1 + 1 + 1, 4, none⟩ = false ∧ w'.cell? ⟨w.heap.size + 1 + 1 + 1 + 1, 5, none⟩ = some (.bool false) ∧ w'.frozen? ⟨w.heap.size + 1 + 1 + 1 + 1, 5, none⟩ = false ∧ w'.cell? ⟨w.heap.size + 1 + 1 + 1 + 1, 6, none⟩ = some (.bool false) ∧ w'.frozen? ⟨w.heap.size + 1 + 1 + 1 + 1, 6, none⟩ = false ∧ w'.cell? ⟨w.heap.size + 1 + 1 + 1 + 1, 7, none⟩ = some (.bool false) ∧ w'.frozen? ⟨w.heap.size + 1 + 1 + 1 + 1, 7, none⟩ = false ∧ w'.cell? ⟨w.heap.size + 1 + 1 + 1 + 1, 8, none⟩ = some (.bool false) ∧ w'.frozen? ⟨w.heap.size + 1 + 1 + 1 + 1, 8, none⟩ = false ∧ w'.cell? ⟨w.heap.size + 1 + 1 + 1 + 1, 9, none⟩ = some (.bool false) ∧ w'.frozen? ⟨w.heap.size + 1 + 1 + 1 + 1, 9, none⟩ = false ∧ w'.cell? ⟨w.heap.size + 1 + 1 + 1 + 1 + 1, 0, none⟩ = some (.pointer (some ⟨w.heap.size + 1 + 1 + 1 + 1, 0, none⟩)) ∧ w'.cell? ⟨w.heap.size + 1 + 1 + 1 + 1 + 1 + 1, 0, none⟩ = some (B8 (secT t s ct)) ∧ w'.cell? ⟨w.heap.size + 1 + 1 + 1 + 1 + 1 + 1 + 1 + 1, 0, none⟩ = some (.bool false) ∧ w'.cell? ⟨w.heap.size + 1 + 1 + 1 + 1 + 1 + 1 + 1 + 1, 1, none⟩ = some (.bool dt) ∧ Below w.heap.size w w') (by kernel_rfl) (by kernel_rfl) (by kernel_rfl) (by kernel_rfl) ?_ ?_
  · (try dsimp only)
    refine ⟨?_, ?_, ?_, ?_, ?_, ?_, ?_, ?_, ?_, ?_, ?_, ?_, ?_, ?_, ?_, ?_, ?_, ?_, ?_, ?_, ?_, ?_, ?_, ?_, ?_, ?_, ?_, ?_, ?_, ?_, ?_, ?_, ?_⟩ <;> first | (go_simp; done) | (simp [*]; done) | go_grown
  (try simp only [List.append_eq, List.cons_append, List.nil_append, List.toList_toArray, List.take_succ_cons, List.take_zero, List.drop_succ_cons, List.drop_zero])
  repeat (first
    | (refine Plan.val (v := ?_) ?_ ?_ ?_; rotate_left; (· rfl); (· (intro W hSw; (try dsimp only at hSw); go_simp; all_goals (first | (with_reducible rfl) | (constructor <;> (with_reducible rfl))))); (try simp only [Act.put, List.setIfInBounds_toArray, List.set_cons_zero, List.set_cons_succ]))
    | (refine Plan.no ?_ ?_; (· rfl); (try simp only [Act.put, List.setIfInBounds_toArray, List.set_cons_zero, List.set_cons_succ]))
    | (refine Plan.call (v := ?_) (f := ?_) (args := ?_) ?_ ?_ ?_ ?_; rotate_left 3; (· rfl); (· (intro W hSw; (try dsimp only at hSw); go_simp; all_goals (first | (with_reducible rfl) | (constructor <;> (with_reducible rfl))))); (· (intro W hSw; (try dsimp only at hSw); first | (go_at_call 30; ((with_reducible refine (count_c _ _ _).mono ?_); rintro _ wz ⟨rfl, hb⟩; (refine ⟨?_, ?_⟩; (· with_reducible rfl); exact ⟨kc hb hSw.1, kc hb hSw.2.1, kc hb hSw.2.2.1, kc hb hSw.2.2.2.1, kc hb hSw.2.2.2.2.1, kc hb hSw.2.2.2.2.2.1, kc hb hSw.2.2.2.2.2.2.1, kc hb hSw.2.2.2.2.2.2.2.1, kc hb hSw.2.2.2.2.2.2.2.2.1, kfz hb (klt hSw.2.2.2.2.2.2.2.2.1) hSw.2.2.2.2.2.2.2.2.2.1, kc hb hSw.2.2.2.2.2.2.2.2.2.2.1, kfz hb (klt hSw.2.2.2.2.2.2.2.2.2.2.1) hSw.2.2.2.2.2.2.2.2.2.2.2.1, kc hb hSw.2.2.2.2.2.2.2.2.2.2.2.2.1, kfz hb (klt hSw.2.2.2.2.2.2.2.2.2.2.2.2.1) hSw.2.2.2.2.2.2.2.2.2.2.2.2.2.1, kc hb hSw.2.2.2.2.2.2.2.2.2.2.2.2.2.2.1, kfz hb (klt hSw.2.2.2.2.2.2.2.2.2.2.2.2.2.2.1) hSw.2.2.2.2.2.2.2.2.2.2.2.2.2.2.2.1, kc hb hSw.2.2.2.2.2.2.2.2.2.2.2.2.2.2.2.2.1, kfz hb (klt hSw.2.2.2.2.2.2.2.2.2.2.2.2.2.2.2.2.1) hSw.2.2.2.2.2.2.2.2.2.2.2.2.2.2.2.2.2.1, kc hb hSw.2.2.2.2.2.2.2.2.2.2.2.2.2.2.2.2.2.2.1, kfz hb (klt hSw.2.2.2.2.2.2.2.2.2.2.2.2.2.2.2.2.2.2.1) hSw.2.2.2.2.2.2.2.2.2.2.2.2.2.2.2.2.2.2.2.1, kc hb hSw.2.2.2.2.2.2.2.2.2.2.2.2.2.2.2.2.2.2.2.2.1, kfz hb (klt hSw.2.2.2.2.2.2.2.2.2.2.2.2.2.2.2.2.2.2.2.2.1) hSw.2.2.2.2.2.2.2.2.2.2.2.2.2.2.2.2.2.2.2.2.2.1, kc hb hSw.2.2.2.2.2.2.2.2.2.2.2.2.2.2.2.2.2.2.2.2.2.2.1, kfz hb (klt hSw.2.2.2.2.2.2.2.2.2.2.2.2.2.2.2.2.2.2.2.2.2.2.1) hSw.2.2.2.2.2.2.2.2.2.2.2.2.2.2.2.2.2.2.2.2.2.2.2.1, kc hb hSw.2.2.2.2.2.2.2.2.2.2.2.2.2.2.2.2.2.2.2.2.2.2.2.2.1, kfz hb (klt hSw.2.2.2.2.2.2.2.2.2.2.2.2.2.2.2.2.2.2.2.2.2.2.2.2.1) hSw.2.2.2.2.2.2.2.2.2.2.2.2.2.2.2.2.2.2.2.2.2.2.2.2.2.1, kc hb hSw.2.2.2.2.2.2.2.2.2.2.2.2.2.2.2.2.2.2.2.2.2.2.2.2.2.2.1, kfz hb (klt hSw.2.2.2.2.2.2.2.2.2.2.2.2.2.2.2.2.2.2.2.2.2.2.2.2.2.2.1) hSw.2.2.2.2.2.2.2.2.2.2.2.2.2.2.2.2.2.2.2.2.2.2.2.2.2.2.2.1, kc hb hSw.2.2.2.2.2.2.2.2.2.2.2.2.2.2.2.2.2.2.2.2.2.2.2.2.2.2.2.2.1, kc hb hSw.2.2.2.2.2.2.2.2.2.2.2.2.2.2.2.2.2.2.2.2.2.2.2.2.2.2.2.2.2.1, kc hb hSw.2.2.2.2.2.2.2.2.2.2.2.2.2.2.2.2.2.2.2.2.2.2.2.2.2.2.2.2.2.2.1, kc hb hSw.2.2.2.2.2.2.2.2.2.2.2.2.2.2.2.2.2.2.2.2.2.2.2.2.2.2.2.2.2.2.2.1, kb hSw.2.2.2.2.2.2.2.2.2.2.2.2.2.2.2.2.2.2.2.2.2.2.2.2.2.2.2.2.2.2.2.2 hb⟩))) | (go_at_call 29; ((with_reducible refine (addDigits_c _ _ _ _).mono ?_); rintro _ wz ⟨rfl, hb⟩; (refine ⟨?_, ?_⟩; (· with_reducible rfl); exact ⟨kc hb hSw.1, kc hb hSw.2.1, kc hb hSw.2.2.1, kc hb hSw.2.2.2.1, kc hb hSw.2.2.2.2.1, kc hb hSw.2.2.2.2.2.1, kc hb hSw.2.2.2.2.2.2.1, kc hb hSw.2.2.2.2.2.2.2.1, kc hb hSw.2.2.2.2.2.2.2.2.1, kfz hb (klt hSw.2.2.2.2.2.2.2.2.1) hSw.2.2.2.2.2.2.2.2.2.1, kc hb hSw.2.2.2.2.2.2.2.2.2.2.1, kfz hb (klt hSw.2.2.2.2.2.2.2.2.2.2.1) hSw.2.2.2.2.2.2.2.2.2.2.2.1, kc hb hSw.2.2.2.2.2.2.2.2.2.2.2.2.1, kfz hb (klt hSw.2.2.2.2.2.2.2.2.2.2.2.2.1) hSw.2.2.2.2.2.2.2.2.2.2.2.2.2.1, kc hb hSw.2.2.2.2.2.2.2.2.2.2.2.2.2.2.1, kfz hb (klt hSw.2.2.2.2.2.2.2.2.2.2.2.2.2.2.1) hSw.2.2.2.2.2.2.2.2.2.2.2.2.2.2.2.1, kc hb hSw.2.2.2.2.2.2.2.2.2.2.2.2.2.2.2.2.1, kfz hb (klt hSw.2.2.2.2.2.2.2.2.2.2.2.2.2.2.2.2.1) hSw.2.2.2.2.2.2.2.2.2.2.2.2.2.2.2.2.2.1, kc hb hSw.2.2.2.2.2.2.2.2.2.2.2.2.2.2.2.2.2.2.1, kfz hb (klt hSw.2.2.2.2.2.2.2.2.2.2.2.2.2.2.2.2.2.2.1) hSw.2.2.2.2.2.2.2.2.2.2.2.2.2.2.2.2.2.2.2.1, kc hb hSw.2.2.2.2.2.2.2.2.2.2.2.2.2.2.2.2.2.2.2.2.1, kfz hb (klt hSw.2.2.2.2.2.2.2.2.2.2.2.2.2.2.2.2.2.2.2.2.1) hSw.2.2.2.2.2.2.2.2.2.2.2.2.2.2.2.2.2.2.2.2.2.1, kc hb hSw.2.2.2.2.2.2.2.2.2.2.2.2.2.2.2.2.2.2.2.2.2.2.1, kfz hb (klt hSw.2.2.2.2.2.2.2.2.2.2.2.2.2.2.2.2.2.2.2.2.2.2.1) hSw.2.2.2.2.2.2.2.2.2.2.2.2.2.2.2.2.2.2.2.2.2.2.2.1, kc hb hSw.2.2.2.2.2.2.2.2.2.2.2.2.2.2.2.2.2.2.2.2.2.2.2.2.1, kfz hb (klt hSw.2.2.2.2.2.2.2.2.2.2.2.2.2.2.2.2.2.2.2.2.2.2.2.2.1) hSw.2.2.2.2.2.2.2.2.2.2.2.2.2.2.2.2.2.2.2.2.2.2.2.2.2.1, kc hb hSw.2.2.2.2.2.2.2.2.2.2.2.2.2.2.2.2.2.2.2.2.2.2.2.2.2.2.1, kfz hb (klt hSw.2.2.2.2.2.2.2.2.2.2.2.2.2.2.2.2.2.2.2.2.2.2.2.2.2.2.1) hSw.2.2.2.2.2.2.2.2.2.2.2.2.2.2.2.2.2.2.2.2.2.2.2.2.2.2.2.1, kc hb hSw.2.2.2.2.2.2.2.2.2.2.2.2.2.2.2.2.2.2.2.2.2.2.2.2.2.2.2.2.1, kc hb hSw.2.2.2.2.2.2.2.2.2.2.2.2.2.2.2.2.2.2.2.2.2.2.2.2.2.2.2.2.2.1, kc hb hSw.2.2.2.2.2.2.2.2.2.2.2.2.2.2.2.2.2.2.2.2.2.2.2.2.2.2.2.2.2.2.1, kc hb hSw.2.2.2.2.2.2.2.2.2.2.2.2.2.2.2.2.2.2.2.2.2.2.2.2.2.2.2.2.2.2.2.1, kb hSw.2.2.2.2.2.2.2.2.2.2.2.2.2.2.2.2.2.2.2.2.2.2.2.2.2.2.2.2.2.2.2.2 hb⟩))) | (go_at_call 31; ((with_reducible refine (addBits_c _ _ _ _).mono ?_); rintro _ wz ⟨rfl, hb⟩; (refine ⟨?_, ?_⟩; (· with_reducible rfl); exact ⟨kc hb hSw.1, kc hb hSw.2.1, kc hb hSw.2.2.1, kc hb hSw.2.2.2.1, kc hb hSw.2.2.2.2.1, kc hb hSw.2.2.2.2.2.1, kc hb hSw.2.2.2.2.2.2.1, kc hb hSw.2.2.2.2.2.2.2.1, kc hb hSw.2.2.2.2.2.2.2.2.1, kfz hb (klt hSw.2.2.2.2.2.2.2.2.1) hSw.2.2.2.2.2.2.2.2.2.1, kc hb hSw.2.2.2.2.2.2.2.2.2.2.1, kfz hb (klt hSw.2.2.2.2.2.2.2.2.2.2.1) hSw.2.2.2.2.2.2.2.2.2.2.2.1, kc hb hSw.2.2.2.2.2.2.2.2.2.2.2.2.1, kfz hb (klt hSw.2.2.2.2.2.2.2.2.2.2.2.2.1) hSw.2.2.2.2.2.2.2.2.2.2.2.2.2.1, kc hb hSw.2.2.2.2.2.2.2.2.2.2.2.2.2.2.1, kfz hb (klt hSw.2.2.2.2.2.2.2.2.2.2.2.2.2.2.1) hSw.2.2.2.2.2.2.2.2.2.2.2.2.2.2.2.1, kc hb hSw.2.2.2.2.2.2.2.2.2.2.2.2.2.2.2.2.1, kfz hb (klt hSw.2.2.2.2.2.2.2.2.2.2.2.2.2.2.2.2.1) hSw.2.2.2.2.2.2.2.2.2.2.2.2.2.2.2.2.2.1, kc hb hSw.2.2.2.2.2.2.2.2.2.2.2.2.2.2.2.2.2.2.1, kfz hb (klt hSw.2.2.2.2.2.2.2.2.2.2.2.2.2.2.2.2.2.2.1) hSw.2.2.2.2.2.2.2.2.2.2.2.2.2.2.2.2.2.2.2.1, kc hb hSw.2.2.2.2.2.2.2.2.2.2.2.2.2.2.2.2.2.2.2.2.1, kfz hb (klt hSw.2.2.2.2.2.2.2.2.2.2.2.2.2.2.2.2.2.2.2.2.1) hSw.2.2.2.2.2.2.2.2.2.2.2.2.2.2.2.2.2.2.2.2.2.1, kc hb hSw.2.2.2.2.2.2.2.2.2.2.2.2.2.2.2.2.2.2.2.2.2.2.1, kfz hb (klt hSw.2.2.2.2.2.2.2.2.2.2.2.2.2.2.2.2.2.2.2.2.2.2.1) hSw.2.2.2.2.2.2.2.2.2.2.2.2.2.2.2.2.2.2.2.2.2.2.2.1, kc hb hSw.2.2.2.2.2.2.2.2.2.2.2.2.2.2.2.2.2.2.2.2.2.2.2.2.1, kfz hb (klt hSw.2.2.2.2.2.2.2.2.2.2.2.2.2.2.2.2.2.2.2.2.2.2.2.2.1) hSw.2.2.2.2.2.2.2.2.2.2.2.2.2.2.2.2.2.2.2.2.2.2.2.2.2.1, kc hb hSw.2.2.2.2.2.2.2.2.2.2.2.2.2.2.2.2.2.2.2.2.2.2.2.2.2.2.1, kfz hb (klt hSw.2.2.2.2.2.2.2.2.2.2.2.2.2.2.2.2.2.2.2.2.2.2.2.2.2.2.1) hSw.2.2.2.2.2.2.2.2.2.2.2.2.2.2.2.2.2.2.2.2.2.2.2.2.2.2.2.1, kc hb hSw.2.2.2.2.2.2.2.2.2.2.2.2.2.2.2.2.2.2.2.2.2.2.2.2.2.2.2.2.1, kc hb hSw.2.2.2.2.2.2.2.2.2.2.2.2.2.2.2.2.2.2.2.2.2.2.2.2.2.2.2.2.2.1, kc hb hSw.2.2.2.2.2.2.2.2.2.2.2.2.2.2.2.2.2.2.2.2.2.2.2.2.2.2.2.2.2.2.1, kc hb hSw.2.2.2.2.2.2.2.2.2.2.2.2.2.2.2.2.2.2.2.2.2.2.2.2.2.2.2.2.2.2.2.1, kb hSw.2.2.2.2.2.2.2.2.2.2.2.2.2.2.2.2.2.2.2.2.2.2.2.2.2.2.2.2.2.2.2.2 hb⟩))) | (go_at_call 37; ((with_reducible refine (subDigits_c _ _ _ _).mono ?_); rintro _ wz ⟨rfl, hb⟩; (refine ⟨?_, ?_⟩; (· with_reducible rfl); exact ⟨kc hb hSw.1, kc hb hSw.2.1, kc hb hSw.2.2.1, kc hb hSw.2.2.2.1, kc hb hSw.2.2.2.2.1, kc hb hSw.2.2.2.2.2.1, kc hb hSw.2.2.2.2.2.2.1, kc hb hSw.2.2.2.2.2.2.2.1, kc hb hSw.2.2.2.2.2.2.2.2.1, kfz hb (klt hSw.2.2.2.2.2.2.2.2.1) hSw.2.2.2.2.2.2.2.2.2.1, kc hb hSw.2.2.2.2.2.2.2.2.2.2.1, kfz hb (klt hSw.2.2.2.2.2.2.2.2.2.2.1) hSw.2.2.2.2.2.2.2.2.2.2.2.1, kc hb hSw.2.2.2.2.2.2.2.2.2.2.2.2.1, kfz hb (klt hSw.2.2.2.2.2.2.2.2.2.2.2.2.1) hSw.2.2.2.2.2.2.2.2.2.2.2.2.2.1, kc hb hSw.2.2.2.2.2.2.2.2.2.2.2.2.2.2.1, kfz hb (klt hSw.2.2.2.2.2.2.2.2.2.2.2.2.2.2.1) hSw.2.2.2.2.2.2.2.2.2.2.2.2.2.2.2.1, kc hb hSw.2.2.2.2.2.2.2.2.2.2.2.2.2.2.2.2.1, kfz hb (klt hSw.2.2.2.2.2.2.2.2.2.2.2.2.2.2.2.2.1) hSw.2.2.2.2.2.2.2.2.2.2.2.2.2.2.2.2.2.1, kc hb hSw.2.2.2.2.2.2.2.2.2.2.2.2.2.2.2.2.2.2.1, kfz hb (klt hSw.2.2.2.2.2.2.2.2.2.2.2.2.2.2.2.2.2.2.1) hSw.2.2.2.2.2.2.2.2.2.2.2.2.2.2.2.2.2.2.2.1, kc hb hSw.2.2.2.2.2.2.2.2.2.2.2.2.2.2.2.2.2.2.2.2.1, kfz hb (klt hSw.2.2.2.2.2.2.2.2.2.2.2.2.2.2.2.2.2.2.2.2.1) hSw.2.2.2.2.2.2.2.2.2.2.2.2.2.2.2.2.2.2.2.2.2.1, kc hb hSw.2.2.2.2.2.2.2.2.2.2.2.2.2.2.2.2.2.2.2.2.2.2.1, kfz hb (klt hSw.2.2.2.2.2.2.2.2.2.2.2.2.2.2.2.2.2.2.2.2.2.2.1) hSw.2.2.2.2.2.2.2.2.2.2.2.2.2.2.2.2.2.2.2.2.2.2.2.1, kc hb hSw.2.2.2.2.2.2.2.2.2.2.2.2.2.2.2.2.2.2.2.2.2.2.2.2.1, kfz hb (klt hSw.2.2.2.2.2.2.2.2.2.2.2.2.2.2.2.2.2.2.2.2.2.2.2.2.1) hSw.2.2.2.2.2.2.2.2.2.2.2.2.2.2.2.2.2.2.2.2.2.2.2.2.2.1, kc hb hSw.2.2.2.2.2.2.2.2.2.2.2.2.2.2.2.2.2.2.2.2.2.2.2.2.2.2.1, kfz hb (klt hSw.2.2.2.2.2.2.2.2.2.2.2.2.2.2.2.2.2.2.2.2.2.2.2.2.2.2.1) hSw.2.2.2.2.2.2.2.2.2.2.2.2.2.2.2.2.2.2.2.2.2.2.2.2.2.2.2.1, kc hb hSw.2.2.2.2.2.2.2.2.2.2.2.2.2.2.2.2.2.2.2.2.2.2.2.2.2.2.2.2.1, kc hb hSw.2.2.2.2.2.2.2.2.2.2.2.2.2.2.2.2.2.2.2.2.2.2.2.2.2.2.2.2.2.1, kc hb hSw.2.2.2.2.2.2.2.2.2.2.2.2.2.2.2.2.2.2.2.2.2.2.2.2.2.2.2.2.2.2.1, kc hb hSw.2.2.2.2.2.2.2.2.2.2.2.2.2.2.2.2.2.2.2.2.2.2.2.2.2.2.2.2.2.2.2.1, kb hSw.2.2.2.2.2.2.2.2.2.2.2.2.2.2.2.2.2.2.2.2.2.2.2.2.2.2.2.2.2.2.2.2 hb⟩))))); (try simp only [Act.put, List.setIfInBounds_toArray, List.set_cons_zero, List.set_cons_succ])))
  refine Plan.done ?_
  intro w2 T
  (try dsimp only at T)
  clear ha_0 ha_1 hb_0 hb_1 hc_0 hc_1 hd_0 hd_1 hr_0 fr_0 hr_1 fr_1 hr_2 fr_2 hr_3 fr_3 hr_4 fr_4 hr_5 fr_5 hr_6 fr_6 hr_7 fr_7 hr_8 fr_8 hr_9 fr_9 hp_0 hq_0 he_0 he_1 hla hlb hlc hld hlr hna0 hna1 hka1 hna2 hka2 hnb0 hkb1 hnc0 hkc1 hnd0 hkd1 hnr0 hkr1 hB hsz
  obtain ⟨ha_0, ha_1, hb_0, hb_1, hc_0, hc_1, hd_0, hd_1, hr_0, fr_0, hr_1, fr_1, hr_2, fr_2, hr_3, fr_3, hr_4, fr_4, hr_5, fr_5, hr_6, fr_6, hr_7, fr_7, hr_8, fr_8, hr_9, fr_9, hp_0, hq_0, he_0, he_1, hB⟩ := T
  have hsz := hB.size
  have hla := klt ha_0
  have hlb := klt hb_0
  have hlc := klt hc_0
  have hld := klt hd_0
  have hlr := klt hr_0
  have hlp := klt hp_0
  have hlq := klt hq_0
  have hle := klt he_0
  have hna0 : ¬ (w.heap.size = w2.heap.size) := by omega
  have hna1 : ¬ (w.heap.size = w2.heap.size + 1) := by omega
  have hka1 : w.heap.size < w2.heap.size + 1 := by omega
  have hna2 : ¬ (w.heap.size = w2.heap.size + 1 + 1) := by omega
  have hka2 : w.heap.size < w2.heap.size + 1 + 1 := by omega
  have hnb0 : ¬ (w.heap.size + 1 = w2.heap.size) := by omega
  have hkb1 : w.heap.size < w2.heap.size := by omega
  have hnc0 : ¬ (w.heap.size + 1 + 1 = w2.heap.size) := by omega
  have hkc1 : w.heap.size + 1 < w2.heap.size := by omega
  have hnd0 : ¬ (w.heap.size + 1 + 1 + 1 = w2.heap.size) := by omega
  have hkd1 : w.heap.size + 1 + 1 < w2.heap.size := by omega
  have hnr0 : ¬ (w.heap.size + 1 + 1 + 1 + 1 = w2.heap.size) := by omega
  have hkr1 : w.heap.size + 1 + 1 + 1 < w2.heap.size := by omega
  have hnp0 : ¬ (w.heap.size + 1 + 1 + 1 + 1 + 1 = w2.heap.size) := by omega
  have hkp1 : w.heap.size + 1 + 1 + 1 + 1 < w2.heap.size := by omega
  have hnq0 : ¬ (w.heap.size + 1 + 1 + 1 + 1 + 1 + 1 = w2.heap.size) := by omega
  have hkq1 : w.heap.size + 1 + 1 + 1 + 1 + 1 < w2.heap.size := by omega
  have hne0 : ¬ (w.heap.size + 1 + 1 + 1 + 1 + 1 + 1 + 1 + 1 = w2.heap.size) := by omega
  have hne1 : ¬ (w.heap.size + 1 + 1 + 1 + 1 + 1 + 1 + 1 = w2.heap.size) := by omega
  have hke1 : w.heap.size + 1 + 1 + 1 + 1 + 1 + 1 + 1 < w2.heap.size := by omega
  have hke2 : w.heap.size + 1 + 1 + 1 + 1 + 1 + 1 < w2.heap.size := by omega
  go_upto_region 5 with fail
  refine wp_pin (fun w' => w'.cell? ⟨w.heap.size + 1 + 1 + 1 + 1, 0, none⟩ = some (B8 (addV x (~~~y) c).a) ∧ w'.frozen? ⟨w.heap.size + 1 + 1 + 1 + 1, 0, none⟩ = false ∧ w'.cell? ⟨w.heap.size + 1 + 1 + 1 + 1, 1, none⟩ = some (B8 0#8) ∧ w'.frozen? ⟨w.heap.size + 1 + 1 + 1 + 1, 1, none⟩ = false ∧ w'.cell? ⟨w.heap.size + 1 + 1 + 1 + 1, 2, none⟩ = some (.bool (addV x (~~~y) c).n) ∧ w'.frozen? ⟨w.heap.size + 1 + 1 + 1 + 1, 2, none⟩ = false ∧ w'.cell? ⟨w.heap.size + 1 + 1 + 1 + 1, 3, none⟩ = some (.bool false) ∧ w'.frozen? ⟨w.heap.size + 1 + 1 + 1 + 1, 3, none⟩ = false ∧ w'.cell? ⟨w.heap.size + 1 + 1 + 1 + 1, 4, none⟩ = some (.bool (addV x (~~~y) c).v) ∧ w'.frozen? ⟨w.heap.size + 1 + 1 + 1 + 1, 4, none⟩ = false ∧ w'.cell? ⟨w.heap.size + 1 + 1 + 1 + 1, 5, none⟩ = some (.bool false) ∧ w'.frozen? ⟨w.heap.size + 1 + 1 + 1 + 1, 5, none⟩ = false ∧ w'.cell? ⟨w.heap.size + 1 + 1 + 1 + 1, 6, none⟩ = some (.bool (addV x (~~~y) c).z) ∧ w'.frozen? ⟨w.heap.size + 1 + 1 + 1 + 1, 6, none⟩ = false ∧ w'.cell? ⟨w.heap.size + 1 + 1 + 1 + 1, 7, none⟩ = some (.bool false) ∧ w'.frozen? ⟨w.heap.size + 1 + 1 + 1 + 1, 7, none⟩ = false ∧ w'.cell? ⟨w.heap.size + 1 + 1 + 1 + 1, 8, none⟩ = some (.bool (addV x (~~~y) c).c) ∧ w'.frozen? ⟨w.heap.size + 1 + 1 + 1 + 1, 8, none⟩ = false ∧ w'.cell? ⟨w.heap.size + 1 + 1 + 1 + 1, 9, none⟩ = some (.bool false) ∧ w'.frozen? ⟨w.heap.size + 1 + 1 + 1 + 1, 9, none⟩ = false ∧ w'.cell? ⟨w.heap.size + 1 + 1 + 1 + 1 + 1, 0, none⟩ = some (.pointer (some ⟨w.heap.size + 1 + 1 + 1 + 1, 0, none⟩)) ∧ w'.cell? ⟨w.heap.size + 1 + 1 + 1 + 1 + 1 + 1, 0, none⟩ = some (B8 (secT t s ct)) ∧ w'.cell? ⟨w.heap.size + 1 + 1 + 1 + 1 + 1 + 1 + 1 + 1, 0, none⟩ = some (.bool false) ∧ w'.cell? ⟨w.heap.size + 1 + 1 + 1 + 1 + 1 + 1 + 1 + 1, 1, none⟩ = some (.bool dt) ∧ Below w.heap.size w w') ?_ ?_
  · (try dsimp only)
    refine ⟨?_, ?_, ?_, ?_, ?_, ?_, ?_, ?_, ?_, ?_, ?_, ?_, ?_, ?_, ?_, ?_, ?_, ?_, ?_, ?_, ?_, ?_, ?_, ?_, ?_⟩ <;> first | (go_simp; done) | (simp [*]; done) | go_grown
  intro w3 T
  (try dsimp only at T)
  clear ha_0 ha_1 hb_0 hb_1 hc_0 hc_1 hd_0 hd_1 hr_0 fr_0 hr_1 fr_1 hr_2 fr_2 hr_3 fr_3 hr_4 fr_4 hr_5 fr_5 hr_6 fr_6 hr_7 fr_7 hr_8 fr_8 hr_9 fr_9 hp_0 hq_0 he_0 he_1 hB hsz hla hlb hlc hld hlr hlp hlq hle hna0 hna1 hka1 hna2 hka2 hnb0 hkb1 hnc0 hkc1 hnd0 hkd1 hnr0 hkr1 hnp0 hkp1 hnq0 hkq1 hne0 hne1 hke1 hke2
  obtain ⟨hr1_0, fr1_0, hr1_1, fr1_1, hr1_2, fr1_2, hr1_3, fr1_3, hr1_4, fr1_4, hr1_5, fr1_5, hr1_6, fr1_6, hr1_7, fr1_7, hr1_8, fr1_8, hr1_9, fr1_9, hp_0, hq_0, he_0, he_1, hB⟩ := T
  have hsz := hB.size
  have hlr1 := klt hr1_0
  have hlp := klt hp_0
  have hlq := klt hq_0
  have hle := klt he_0
  have hnr10 : ¬ (w.heap.size + 1 + 1 + 1 + 1 = w3.heap.size) := by omega
  have hnr11 : ¬ (w.heap.size + 1 + 1 + 1 = w3.heap.size) := by omega
  have hkr11 : w.heap.size + 1 + 1 + 1 < w3.heap.size := by omega
  have hnr12 : ¬ (w.heap.size + 1 + 1 = w3.heap.size) := by omega
  have hkr12 : w.heap.size + 1 + 1 < w3.heap.size := by omega
  have hnp0 : ¬ (w.heap.size + 1 + 1 + 1 + 1 + 1 = w3.heap.size) := by omega
  have hkp1 : w.heap.size + 1 + 1 + 1 + 1 < w3.heap.size := by omega
  have hnq0 : ¬ (w.heap.size + 1 + 1 + 1 + 1 + 1 + 1 = w3.heap.size) := by omega
  have hkq1 : w.heap.size + 1 + 1 + 1 + 1 + 1 < w3.heap.size := by omega
  have hne0 : ¬ (w.heap.size + 1 + 1 + 1 + 1 + 1 + 1 + 1 + 1 = w3.heap.size) := by omega
  have hne1 : ¬ (w.heap.size + 1 + 1 + 1 + 1 + 1 + 1 + 1 = w3.heap.size) := by omega
  have hke1 : w.heap.size + 1 + 1 + 1 + 1 + 1 + 1 + 1 < w3.heap.size := by omega
  have hke2 : w.heap.size + 1 + 1 + 1 + 1 + 1 + 1 < w3.heap.size := by omega
  go_wp2_with fail
  refine leaves_cons (f := 43) (args := #[.pointer (some ⟨w.heap.size + 1 + 1 + 1 + 1 + 1 + 1, 0, none⟩), .pointer (some ⟨w.heap.size + 1 + 1 + 1 + 1 + 1 + 1 + 1 + 1, 0, none⟩), .pointer (some ⟨w.heap.size + 1 + 1 + 1 + 1 + 1, 0, none⟩)]) (by simp) (by simp [go_sem]) ?_
  refine (hider1_c (addV x (~~~y) c) (secT t s ct) false dt (w.heap.size + 1 + 1 + 1 + 1) (w.heap.size + 1 + 1 + 1 + 1 + 1) (w.heap.size + 1 + 1 + 1 + 1 + 1 + 1) (w.heap.size + 1 + 1 + 1 + 1 + 1 + 1 + 1 + 1) _ (by constructor <;> first | omega | (go_simp; done) | (go_simp; rfl)) (fun _ => rfl)).mono ?_
  rintro e u' wz ⟨rfl, rfl, hH⟩
  obtain ⟨q0, q1, q2, q3, q4, q5, q6, q7, q8, q9, hH⟩ := hH
  simp [Leaves, settle, results, Try.results15, go_sem, q0, q1, q2, q3, q4, q5, q6, q7, q8, q9]
  have hG := hH.mono (show w.heap.size ≤ w.heap.size + 1 + 1 + 1 + 1 by omega)
  refine Below.trans ?_ hG
  go_grown

set_option maxRecDepth 100000 in
set_option maxHeartbeats 4000000 in
theorem sub_true (x t y s : BitVec 8) (c ct dt : Bool) (w : World) : Calls Try.prog 15 #[TB x t, TB y s, TBit c ct, TBit true dt] w fun e w' =>
    e = .returned (VS (subD x y c) (hidT (secT t s ct) (subD x y c).a true dt)) ∧ Below w.heap.size w w' := by
  have hu := u8_or
  have hu' := u8_not'
  have k0 : T0.t = 0#8 := rfl
  have k1 : T0.n = false := rfl
  have k2 : T0.v = false := rfl
  have k3 : T0.z = false := rfl
  have k4 : T0.c = false := rfl
  go_enter_defers Try.func15, Try.ntmps15
  go_wp2_with fail
  ((with_reducible refine (hider_s _ t s _ ct _ _ _).mono ?_); rintro _ w1 ⟨rfl, hb, hp_0, hq_0, he_0, he_1⟩)
  have T : w1.cell? ⟨w.heap.size, 0, none⟩ = some (B8 x) ∧ w1.cell? ⟨w.heap.size, 1, none⟩ = some (B8 t) ∧ w1.cell? ⟨w.heap.size + 1, 0, none⟩ = some (B8 y) ∧ w1.cell? ⟨w.heap.size + 1, 1, none⟩ = some (B8 s) ∧ w1.cell? ⟨w.heap.size + 1 + 1, 0, none⟩ = some (.bool c) ∧ w1.cell? ⟨w.heap.size + 1 + 1, 1, none⟩ = some (.bool ct) ∧ w1.cell? ⟨w.heap.size + 1 + 1 + 1, 0, none⟩ = some (.bool true) ∧ w1.cell? ⟨w.heap.size + 1 + 1 + 1, 1, none⟩ = some (.bool dt) ∧ w1.cell? ⟨w.heap.size + 1 + 1 + 1 + 1, 0, none⟩ = some (.int .u8 0) ∧ w1.frozen? ⟨w.heap.size + 1 + 1 + 1 + 1, 0, none⟩ = false ∧ w1.cell? ⟨w.heap.size + 1 + 1 + 1 + 1, 1, none⟩ = some (.int .u8 0) ∧ w1.frozen? ⟨w.heap.size + 1 + 1 + 1 + 1, 1, none⟩ = false ∧ w1.cell? ⟨w.heap.size + 1 + 1 + 1 + 1, 2, none⟩ = some (.bool false) ∧ w1.frozen? ⟨w.heap.size + 1 + 1 + 1 + 1, 2, none⟩ = false ∧ w1.cell? ⟨w.heap.size + 1 + 1 + 1 + 1, 3, none⟩ = some (.bool false) ∧ w1.frozen? ⟨w.heap.size + 1 + 1 + 1 + 1, 3, none⟩ = false ∧ w1.cell? ⟨w.heap.size + 1 + 1 + 1 + 1, 4, none⟩ = some (.bool false) ∧ w1.frozen? ⟨w.heap.size + 1 + 1 + 1 + 1, 4, none⟩ = false ∧ w1.cell? ⟨w.heap.size + 1 + 1 + 1 + 1, 5, none⟩ = some (.bool false) ∧ w1.frozen? ⟨w.heap.size + 1 + 1 + 1 + 1, 5, none⟩ = false ∧ w1.cell? ⟨w.heap.size + 1 + 1 + 1 + 1, 6, none⟩ = some (.bool false) ∧ w1.frozen? ⟨w.heap.size + 1 + 1 + 1 + 1, 6, none⟩ = false ∧ w1.cell? ⟨w.heap.size + 1 + 1 + 1 + 1, 7, none⟩ = some (.bool false) ∧ w1.frozen? ⟨w.heap.size + 1 + 1 + 1 + 1, 7, none⟩ = false ∧ w1.cell? ⟨w.heap.size + 1 + 1 + 1 + 1, 8, none⟩ = some (.bool false) ∧ w1.frozen? ⟨w.heap.size + 1 + 1 + 1 + 1, 8, none⟩ = false ∧ w1.cell? ⟨w.heap.size + 1 + 1 + 1 + 1, 9, none⟩ = some (.bool false) ∧ w1.frozen? ⟨w.heap.size + 1 + 1 + 1 + 1, 9, none⟩ = false := by
      refine ⟨?_, ?_, ?_, ?_, ?_, ?_, ?_, ?_, ?_, ?_, ?_, ?_, ?_, ?_, ?_, ?_, ?_, ?_, ?_, ?_, ?_, ?_, ?_, ?_, ?_, ?_, ?_, ?_⟩ <;> first | (refine kc hb ?_ <;> (go_simp; first | done | rfl)) | (refine kfz hb ?_ ?_ <;> first | (go_size; done) | (go_simp; done))
  have hz := hb.size
  (try simp only [World.size_alloc, World.size_setCell, World.size_drew] at hz)
  (try simp only [World.size_alloc, World.size_setCell, World.size_drew] at hp_0)
  (try simp only [World.size_alloc, World.size_setCell, World.size_drew] at hq_0)
  (try simp only [World.size_alloc, World.size_setCell, World.size_drew] at he_0)
  (try simp only [World.size_alloc, World.size_setCell, World.size_drew] at he_1)
  have hla' : w.heap.size < w1.heap.size := by omega
  have hlb' : w.heap.size + 1 < w1.heap.size := by omega
  have hlc' : w.heap.size + 1 + 1 < w1.heap.size := by omega
  have hld' : w.heap.size + 1 + 1 + 1 < w1.heap.size := by omega
  have hlr' : w.heap.size + 1 + 1 + 1 + 1 < w1.heap.size := by omega
  have hB' : Below w.heap.size w w1 := by
      refine kb ?_ hb
      go_grown
  clear hb hz
  obtain ⟨ha_0, ha_1, hb_0, hb_1, hc_0, hc_1, hd_0, hd_1, hr_0, fr_0, hr_1, fr_1, hr_2, fr_2, hr_3, fr_3, hr_4, fr_4, hr_5, fr_5, hr_6, fr_6, hr_7, fr_7, hr_8, fr_8, hr_9, fr_9⟩ := T
  have hla := hla'; clear hla'
  have hlb := hlb'; clear hlb'
  have hlc := hlc'; clear hlc'
  have hld := hld'; clear hld'
  have hlr := hlr'; clear hlr'
  have hna0 : ¬ (w.heap.size = w1.heap.size) := by omega
  have hna1 : ¬ (w.heap.size = w1.heap.size + 1) := by omega
  have hka1 : w.heap.size < w1.heap.size + 1 := by omega
  have hna2 : ¬ (w.heap.size = w1.heap.size + 1 + 1) := by omega
  have hka2 : w.heap.size < w1.heap.size + 1 + 1 := by omega
  have hnb0 : ¬ (w.heap.size + 1 = w1.heap.size) := by omega
  have hkb1 : w.heap.size < w1.heap.size := by omega
  have hnc0 : ¬ (w.heap.size + 1 + 1 = w1.heap.size) := by omega
  have hkc1 : w.heap.size + 1 < w1.heap.size := by omega
  have hnd0 : ¬ (w.heap.size + 1 + 1 + 1 = w1.heap.size) := by omega
  have hkd1 : w.heap.size + 1 + 1 < w1.heap.size := by omega
  have hnr0 : ¬ (w.heap.size + 1 + 1 + 1 + 1 = w1.heap.size) := by omega
  have hkr1 : w.heap.size + 1 + 1 + 1 < w1.heap.size := by omega
  have hB := hB'; clear hB'
  have hsz := hB.size
  go_wp2_with fail
  refine wp_region_planT 8 (fun w' => w'.cell? ⟨w.heap.size, 0, none⟩ = some (B8 x) ∧ w'.cell? ⟨w.heap.size, 1, none⟩ = some (B8 t) ∧ w'.cell? ⟨w.heap.size + 1, 0, none⟩ = some (B8 y) ∧ w'.cell? ⟨w.heap.size + 1, 1, none⟩ = some (B8 s) ∧ w'.cell? ⟨w.heap.size + 1 + 1, 0, none⟩ = some (.bool c) ∧ w'.cell? ⟨w.heap.size + 1 + 1, 1, none⟩ = some (.bool ct) ∧ w'.cell? ⟨w.heap.size + 1 + 1 + 1, 0, none⟩ = some (.bool true) ∧ w'.cell? ⟨w.heap.size + 1 + 1 + 1, 1, none⟩ = some (.bool dt) ∧ w'.cell? ⟨w.heap.size + 1 + 1 + 1 + 1, 0, none⟩ = some (.int .u8 0) ∧ w'.frozen? ⟨w.heap.size + 1 + 1 + 1 + 1, 0, none⟩ = false ∧ w'.cell? ⟨w.heap.size + 1 + 1 + 1 + 1, 1, none⟩ = some (.int .u8 0) ∧ w'.frozen? ⟨w.heap.size + 1 + 1 + 1 + 1, 1, none⟩ = false ∧ w'.cell? ⟨w.heap.size + 1 + 1 + 1 + 1, 2, none⟩ = some (.bool false) ∧ w'.frozen? ⟨w.heap.size + 1 + 1 + 1 + 1, 2, none⟩ = false ∧ w'.cell? ⟨w.heap.size + 1 + 1 + 1 + 1, 3, none⟩ = some (.bool false) ∧ w'.frozen? ⟨w.heap.size + 1 + 1 + 1 + 1, 3, none⟩ = false ∧ w'.cell? ⟨w.heap.size + 1 + 1 + 1 + 1, 4, none⟩ = some (.bool false) ∧ w'.frozen? ⟨w.heap.size + 1 + 1 + 1 + 1, 4, none⟩ = false ∧ w'.cell? ⟨w.heap.size + 1 + 1 + 1 + 1, 5, none⟩ = some (.bool false) ∧ w'.frozen? ⟨w.heap.size + 1 + 1 + 1 + 1, 5, none⟩ = false ∧ w'.cell? ⟨w.heap.size + 1 + 1 + 1 + 1, 6, none⟩ = some (.bool false) ∧ w'.frozen? ⟨w.heap.size + 1 + 1 + 1 + 1, 6, none⟩ = false ∧ w'.cell? ⟨w.heap.size + 1 + 1 + 1 + 1, 7, none⟩ = some (.bool false) ∧ w'.frozen? ⟨w.heap.size + 1 + 1 + 1 + 1, 7, none⟩ = false ∧ w'.cell? ⟨w.heap.size + 1 + 1 + 1 + 1, 8, none⟩ = some (.bool false) ∧ w'.frozen? ⟨w.heap.size + 1 + 1 + 1 + 1, 8, none⟩ = false ∧ w'.cell? ⟨w.heap.size + 1 + 1 + 1 + 1, 9, none⟩ = some (.bool false) ∧ w'.frozen? ⟨w.heap.size + 1 + 1 + 1 + 1, 9, none⟩ = false ∧ w'.cell? ⟨w.heap.size + 1 + 1 + 1 + 1 + 1, 0, none⟩ = some (.pointer (some ⟨w.heap.size + 1 + 1 + 1 + 1, 0, none⟩)) ∧ w'.cell? ⟨w.heap.size + 1 + 1 + 1 + 1 + 1 + 1, 0, none⟩ = some (B8 (secT t s ct)) ∧ w'.cell? ⟨w.heap.size + 1 + 1 + 1 + 1 + 1 + 1 + 1 + 1, 0, none⟩ = some (.bool true) ∧ w'.cell? ⟨w.heap.size + 1 + 1 + 1 + 1 + 1 + 1 + 1 + 1, 1, none⟩ = some (.bool dt) ∧ Below w.heap.size w w') (by kernel_rfl) (by kernel_rfl) (by kernel_rfl) (by kernel_rfl) ?_ ?_
  · (try dsimp only)
    refine ⟨?_, ?_, ?_, ?_, ?_, ?_, ?_, ?_, ?_, ?_, ?_, ?_, ?_, ?_, ?_, ?_, ?_, ?_, ?_, ?_, ?_, ?_, ?_, ?_, ?_, ?_, ?_, ?_, ?_, ?_, ?_, ?_, ?_⟩ <;> first | (go_simp; done) | (simp [*]; done) | go_grown
  (try simp only [List.append_eq, List.cons_append, List.nil_append, List.toList_toArray, List.take_succ_cons, List.take_zero, List.drop_succ_cons, List.drop_zero])
  repeat (first
    | (refine Plan.val (v := ?_) ?_ ?_ ?_; rotate_left; (· rfl); (· (intro W hSw; (try dsimp only at hSw); go_simp; all_goals (first | (with_reducible rfl) | (constructor <;> (with_reducible rfl))))); (try simp only [Act.put, List.setIfInBounds_toArray, List.set_cons_zero, List.set_cons_succ]))
    | (refine Plan.no ?_ ?_; (· rfl); (try simp only [Act.put, List.setIfInBounds_toArray, List.set_cons_zero, List.set_cons_succ]))
    | (refine Plan.call (v := ?_) (f := ?_) (args := ?_) ?_ ?_ ?_ ?_; rotate_left 3; (· rfl); (· (intro W hSw; (try dsimp only at hSw); go_simp; all_goals (first | (with_reducible rfl) | (constructor <;> (with_reducible rfl))))); (· (intro W hSw; (try dsimp only at hSw); first | (go_at_call 30; ((with_reducible refine (count_c _ _ _).mono ?_); rintro _ wz ⟨rfl, hb⟩; (refine ⟨?_, ?_⟩; (· with_reducible rfl); exact ⟨kc hb hSw.1, kc hb hSw.2.1, kc hb hSw.2.2.1, kc hb hSw.2.2.2.1, kc hb hSw.2.2.2.2.1, kc hb hSw.2.2.2.2.2.1, kc hb hSw.2.2.2.2.2.2.1, kc hb hSw.2.2.2.2.2.2.2.1, kc hb hSw.2.2.2.2.2.2.2.2.1, kfz hb (klt hSw.2.2.2.2.2.2.2.2.1) hSw.2.2.2.2.2.2.2.2.2.1, kc hb hSw.2.2.2.2.2.2.2.2.2.2.1, kfz hb (klt hSw.2.2.2.2.2.2.2.2.2.2.1) hSw.2.2.2.2.2.2.2.2.2.2.2.1, kc hb hSw.2.2.2.2.2.2.2.2.2.2.2.2.1, kfz hb (klt hSw.2.2.2.2.2.2.2.2.2.2.2.2.1) hSw.2.2.2.2.2.2.2.2.2.2.2.2.2.1, kc hb hSw.2.2.2.2.2.2.2.2.2.2.2.2.2.2.1, kfz hb (klt hSw.2.2.2.2.2.2.2.2.2.2.2.2.2.2.1) hSw.2.2.2.2.2.2.2.2.2.2.2.2.2.2.2.1, kc hb hSw.2.2.2.2.2.2.2.2.2.2.2.2.2.2.2.2.1, kfz hb (klt hSw.2.2.2.2.2.2.2.2.2.2.2.2.2.2.2.2.1) hSw.2.2.2.2.2.2.2.2.2.2.2.2.2.2.2.2.2.1, kc hb hSw.2.2.2.2.2.2.2.2.2.2.2.2.2.2.2.2.2.2.1, kfz hb (klt hSw.2.2.2.2.2.2.2.2.2.2.2.2.2.2.2.2.2.2.1) hSw.2.2.2.2.2.2.2.2.2.2.2.2.2.2.2.2.2.2.2.1, kc hb hSw.2.2.2.2.2.2.2.2.2.2.2.2.2.2.2.2.2.2.2.2.1, kfz hb (klt hSw.2.2.2.2.2.2.2.2.2.2.2.2.2.2.2.2.2.2.2.2.1) hSw.2.2.2.2.2.2.2.2.2.2.2.2.2.2.2.2.2.2.2.2.2.1, kc hb hSw.2.2.2.2.2.2.2.2.2.2.2.2.2.2.2.2.2.2.2.2.2.2.1, kfz hb (klt hSw.2.2.2.2.2.2.2.2.2.2.2.2.2.2.2.2.2.2.2.2.2.2.1) hSw.2.2.2.2.2.2.2.2.2.2.2.2.2.2.2.2.2.2.2.2.2.2.2.1, kc hb hSw.2.2.2.2.2.2.2.2.2.2.2.2.2.2.2.2.2.2.2.2.2.2.2.2.1, kfz hb (klt hSw.2.2.2.2.2.2.2.2.2.2.2.2.2.2.2.2.2.2.2.2.2.2.2.2.1) hSw.2.2.2.2.2.2.2.2.2.2.2.2.2.2.2.2.2.2.2.2.2.2.2.2.2.1, kc hb hSw.2.2.2.2.2.2.2.2.2.2.2.2.2.2.2.2.2.2.2.2.2.2.2.2.2.2.1, kfz hb (klt hSw.2.2.2.2.2.2.2.2.2.2.2.2.2.2.2.2.2.2.2.2.2.2.2.2.2.2.1) hSw.2.2.2.2.2.2.2.2.2.2.2.2.2.2.2.2.2.2.2.2.2.2.2.2.2.2.2.1, kc hb hSw.2.2.2.2.2.2.2.2.2.2.2.2.2.2.2.2.2.2.2.2.2.2.2.2.2.2.2.2.1, kc hb hSw.2.2.2.2.2.2.2.2.2.2.2.2.2.2.2.2.2.2.2.2.2.2.2.2.2.2.2.2.2.1, kc hb hSw.2.2.2.2.2.2.2.2.2.2.2.2.2.2.2.2.2.2.2.2.2.2.2.2.2.2.2.2.2.2.1, kc hb hSw.2.2.2.2.2.2.2.2.2.2.2.2.2.2.2.2.2.2.2.2.2.2.2.2.2.2.2.2.2.2.2.1, kb hSw.2.2.2.2.2.2.2.2.2.2.2.2.2.2.2.2.2.2.2.2.2.2.2.2.2.2.2.2.2.2.2.2 hb⟩))) | (go_at_call 29; ((with_reducible refine (addDigits_c _ _ _ _).mono ?_); rintro _ wz ⟨rfl, hb⟩; (refine ⟨?_, ?_⟩; (· with_reducible rfl); exact ⟨kc hb hSw.1, kc hb hSw.2.1, kc hb hSw.2.2.1, kc hb hSw.2.2.2.1, kc hb hSw.2.2.2.2.1, kc hb hSw.2.2.2.2.2.1, kc hb hSw.2.2.2.2.2.2.1, kc hb hSw.2.2.2.2.2.2.2.1, kc hb hSw.2.2.2.2.2.2.2.2.1, kfz hb (klt hSw.2.2.2.2.2.2.2.2.1) hSw.2.2.2.2.2.2.2.2.2.1, kc hb hSw.2.2.2.2.2.2.2.2.2.2.1, kfz hb (klt hSw.2.2.2.2.2.2.2.2.2.2.1) hSw.2.2.2.2.2.2.2.2.2.2.2.1, kc hb hSw.2.2.2.2.2.2.2.2.2.2.2.2.1, kfz hb (klt hSw.2.2.2.2.2.2.2.2.2.2.2.2.1) hSw.2.2.2.2.2.2.2.2.2.2.2.2.2.1, kc hb hSw.2.2.2.2.2.2.2.2.2.2.2.2.2.2.1, kfz hb (klt hSw.2.2.2.2.2.2.2.2.2.2.2.2.2.2.1) hSw.2.2.2.2.2.2.2.2.2.2.2.2.2.2.2.1, kc hb hSw.2.2.2.2.2.2.2.2.2.2.2.2.2.2.2.2.1, kfz hb (klt hSw.2.2.2.2.2.2.2.2.2.2.2.2.2.2.2.2.1) hSw.2.2.2.2.2.2.2.2.2.2.2.2.2.2.2.2.2.1, kc hb hSw.2.2.2.2.2.2.2.2.2.2.2.2.2.2.2.2.2.2.1, kfz hb (klt hSw.2.2.2.2.2.2.2.2.2.2.2.2.2.2.2.2.2.2.1) hSw.2.2.2.2.2.2.2.2.2.2.2.2.2.2.2.2.2.2.2.1, kc hb hSw.2.2.2.2.2.2.2.2.2.2.2.2.2.2.2.2.2.2.2.2.1, kfz hb (klt hSw.2.2.2.2.2.2.2.2.2.2.2.2.2.2.2.2.2.2.2.2.1) hSw.2.2.2.2.2.2.2.2.2.2.2.2.2.2.2.2.2.2.2.2.2.1, kc hb hSw.2.2.2.2.2.2.2.2.2.2.2.2.2.2.2.2.2.2.2.2.2.2.1, kfz hb (klt hSw.2.2.2.2.2.2.2.2.2.2.2.2.2.2.2.2.2.2.2.2.2.2.1) hSw.2.2.2.2.2.2.2.2.2.2.2.2.2.2.2.2.2.2.2.2.2.2.2.1, kc hb hSw.2.2.2.2.2.2.2.2.2.2.2.2.2.2.2.2.2.2.2.2.2.2.2.2.1, kfz hb (klt hSw.2.2.2.2.2.2.2.2.2.2.2.2.2.2.2.2.2.2.2.2.2.2.2.2.1) hSw.2.2.2.2.2.2.2.2.2.2.2.2.2.2.2.2.2.2.2.2.2.2.2.2.2.1, kc hb hSw.2.2.2.2.2.2.2.2.2.2.2.2.2.2.2.2.2.2.2.2.2.2.2.2.2.2.1, kfz hb (klt hSw.2.2.2.2.2.2.2.2.2.2.2.2.2.2.2.2.2.2.2.2.2.2.2.2.2.2.1) hSw.2.2.2.2.2.2.2.2.2.2.2.2.2.2.2.2.2.2.2.2.2.2.2.2.2.2.2.1, kc hb hSw.2.2.2.2.2.2.2.2.2.2.2.2.2.2.2.2.2.2.2.2.2.2.2.2.2.2.2.2.1, kc hb hSw.2.2.2.2.2.2.2.2.2.2.2.2.2.2.2.2.2.2.2.2.2.2.2.2.2.2.2.2.2.1, kc hb hSw.2.2.2.2.2.2.2.2.2.2.2.2.2.2.2.2.2.2.2.2.2.2.2.2.2.2.2.2.2.2.1, kc hb hSw.2.2.2.2.2.2.2.2.2.2.2.2.2.2.2.2.2.2.2.2.2.2.2.2.2.2.2.2.2.2.2.1, kb hSw.2.2.2.2.2.2.2.2.2.2.2.2.2.2.2.2.2.2.2.2.2.2.2.2.2.2.2.2.2.2.2.2 hb⟩))) | (go_at_call 31; ((with_reducible refine (addBits_c _ _ _ _).mono ?_); rintro _ wz ⟨rfl, hb⟩; (refine ⟨?_, ?_⟩; (· with_reducible rfl); exact ⟨kc hb hSw.1, kc hb hSw.2.1, kc hb hSw.2.2.1, kc hb hSw.2.2.2.1, kc hb hSw.2.2.2.2.1, kc hb hSw.2.2.2.2.2.1, kc hb hSw.2.2.2.2.2.2.1, kc hb hSw.2.2.2.2.2.2.2.1, kc hb hSw.2.2.2.2.2.2.2.2.1, kfz hb (klt hSw.2.2.2.2.2.2.2.2.1) hSw.2.2.2.2.2.2.2.2.2.1, kc hb hSw.2.2.2.2.2.2.2.2.2.2.1, kfz hb (klt hSw.2.2.2.2.2.2.2.2.2.2.1) hSw.2.2.2.2.2.2.2.2.2.2.2.1, kc hb hSw.2.2.2.2.2.2.2.2.2.2.2.2.1, kfz hb (klt hSw.2.2.2.2.2.2.2.2.2.2.2.2.1) hSw.2.2.2.2.2.2.2.2.2.2.2.2.2.1, kc hb hSw.2.2.2.2.2.2.2.2.2.2.2.2.2.2.1, kfz hb (klt hSw.2.2.2.2.2.2.2.2.2.2.2.2.2.2.1) hSw.2.2.2.2.2.2.2.2.2.2.2.2.2.2.2.1, kc hb hSw.2.2.2.2.2.2.2.2.2.2.2.2.2.2.2.2.1, kfz hb (klt hSw.2.2.2.2.2.2.2.2.2.2.2.2.2.2.2.2.1) hSw.2.2.2.2.2.2.2.2.2.2.2.2.2.2.2.2.2.1, kc hb hSw.2.2.2.2.2.2.2.2.2.2.2.2.2.2.2.2.2.2.1, kfz hb (klt hSw.2.2.2.2.2.2.2.2.2.2.2.2.2.2.2.2.2.2.1) hSw.2.2.2.2.2.2.2.2.2.2.2.2.2.2.2.2.2.2.2.1, kc hb hSw.2.2.2.2.2.2.2.2.2.2.2.2.2.2.2.2.2.2.2.2.1, kfz hb (klt hSw.2.2.2.2.2.2.2.2.2.2.2.2.2.2.2.2.2.2.2.2.1) hSw.2.2.2.2.2.2.2.2.2.2.2.2.2.2.2.2.2.2.2.2.2.1, kc hb hSw.2.2.2.2.2.2.2.2.2.2.2.2.2.2.2.2.2.2.2.2.2.2.1, kfz hb (klt hSw.2.2.2.2.2.2.2.2.2.2.2.2.2.2.2.2.2.2.2.2.2.2.1) hSw.2.2.2.2.2.2.2.2.2.2.2.2.2.2.2.2.2.2.2.2.2.2.2.1, kc hb hSw.2.2.2.2.2.2.2.2.2.2.2.2.2.2.2.2.2.2.2.2.2.2.2.2.1, kfz hb (klt hSw.2.2.2.2.2.2.2.2.2.2.2.2.2.2.2.2.2.2.2.2.2.2.2.2.1) hSw.2.2.2.2.2.2.2.2.2.2.2.2.2.2.2.2.2.2.2.2.2.2.2.2.2.1, kc hb hSw.2.2.2.2.2.2.2.2.2.2.2.2.2.2.2.2.2.2.2.2.2.2.2.2.2.2.1, kfz hb (klt hSw.2.2.2.2.2.2.2.2.2.2.2.2.2.2.2.2.2.2.2.2.2.2.2.2.2.2.1) hSw.2.2.2.2.2.2.2.2.2.2.2.2.2.2.2.2.2.2.2.2.2.2.2.2.2.2.2.1, kc hb hSw.2.2.2.2.2.2.2.2.2.2.2.2.2.2.2.2.2.2.2.2.2.2.2.2.2.2.2.2.1, kc hb hSw.2.2.2.2.2.2.2.2.2.2.2.2.2.2.2.2.2.2.2.2.2.2.2.2.2.2.2.2.2.1, kc hb hSw.2.2.2.2.2.2.2.2.2.2.2.2.2.2.2.2.2.2.2.2.2.2.2.2.2.2.2.2.2.2.1, kc hb hSw.2.2.2.2.2.2.2.2.2.2.2.2.2.2.2.2.2.2.2.2.2.2.2.2.2.2.2.2.2.2.2.1, kb hSw.2.2.2.2.2.2.2.2.2.2.2.2.2.2.2.2.2.2.2.2.2.2.2.2.2.2.2.2.2.2.2.2 hb⟩))) | (go_at_call 37; ((with_reducible refine (subDigits_c _ _ _ _).mono ?_); rintro _ wz ⟨rfl, hb⟩; (refine ⟨?_, ?_⟩; (· with_reducible rfl); exact ⟨kc hb hSw.1, kc hb hSw.2.1, kc hb hSw.2.2.1, kc hb hSw.2.2.2.1, kc hb hSw.2.2.2.2.1, kc hb hSw.2.2.2.2.2.1, kc hb hSw.2.2.2.2.2.2.1, kc hb hSw.2.2.2.2.2.2.2.1, kc hb hSw.2.2.2.2.2.2.2.2.1, kfz hb (klt hSw.2.2.2.2.2.2.2.2.1) hSw.2.2.2.2.2.2.2.2.2.1, kc hb hSw.2.2.2.2.2.2.2.2.2.2.1, kfz hb (klt hSw.2.2.2.2.2.2.2.2.2.2.1) hSw.2.2.2.2.2.2.2.2.2.2.2.1, kc hb hSw.2.2.2.2.2.2.2.2.2.2.2.2.1, kfz hb (klt hSw.2.2.2.2.2.2.2.2.2.2.2.2.1) hSw.2.2.2.2.2.2.2.2.2.2.2.2.2.1, kc hb hSw.2.2.2.2.2.2.2.2.2.2.2.2.2.2.1, kfz hb (klt hSw.2.2.2.2.2.2.2.2.2.2.2.2.2.2.1) hSw.2.2.2.2.2.2.2.2.2.2.2.2.2.2.2.1, kc hb hSw.2.2.2.2.2.2.2.2.2.2.2.2.2.2.2.2.1, kfz hb (klt hSw.2.2.2.2.2.2.2.2.2.2.2.2.2.2.2.2.1) hSw.2.2.2.2.2.2.2.2.2.2.2.2.2.2.2.2.2.1, kc hb hSw.2.2.2.2.2.2.2.2.2.2.2.2.2.2.2.2.2.2.1, kfz hb (klt hSw.2.2.2.2.2.2.2.2.2.2.2.2.2.2.2.2.2.2.1) hSw.2.2.2.2.2.2.2.2.2.2.2.2.2.2.2.2.2.2.2.1, kc hb hSw.2.2.2.2.2.2.2.2.2.2.2.2.2.2.2.2.2.2.2.2.1, kfz hb (klt hSw.2.2.2.2.2.2.2.2.2.2.2.2.2.2.2.2.2.2.2.2.1) hSw.2.2.2.2.2.2.2.2.2.2.2.2.2.2.2.2.2.2.2.2.2.1, kc hb hSw.2.2.2.2.2.2.2.2.2.2.2.2.2.2.2.2.2.2.2.2.2.2.1, kfz hb (klt hSw.2.2.2.2.2.2.2.2.2.2.2.2.2.2.2.2.2.2.2.2.2.2.1) hSw.2.2.2.2.2.2.2.2.2.2.2.2.2.2.2.2.2.2.2.2.2.2.2.1, kc hb hSw.2.2.2.2.2.2.2.2.2.2.2.2.2.2.2.2.2.2.2.2.2.2.2.2.1, kfz hb (klt hSw.2.2.2.2.2.2.2.2.2.2.2.2.2.2.2.2.2.2.2.2.2.2.2.2.1) hSw.2.2.2.2.2.2.2.2.2.2.2.2.2.2.2.2.2.2.2.2.2.2.2.2.2.1, kc hb hSw.2.2.2.2.2.2.2.2.2.2.2.2.2.2.2.2.2.2.2.2.2.2.2.2.2.2.1, kfz hb (klt hSw.2.2.2.2.2.2.2.2.2.2.2.2.2.2.2.2.2.2.2.2.2.2.2.2.2.2.1) hSw.2.2.2.2.2.2.2.2.2.2.2.2.2.2.2.2.2.2.2.2.2.2.2.2.2.2.2.1, kc hb hSw.2.2.2.2.2.2.2.2.2.2.2.2.2.2.2.2.2.2.2.2.2.2.2.2.2.2.2.2.1, kc hb hSw.2.2.2.2.2.2.2.2.2.2.2.2.2.2.2.2.2.2.2.2.2.2.2.2.2.2.2.2.2.1, kc hb hSw.2.2.2.2.2.2.2.2.2.2.2.2.2.2.2.2.2.2.2.2.2.2.2.2.2.2.2.2.2.2.1, kc hb hSw.2.2.2.2.2.2.2.2.2.2.2.2.2.2.2.2.2.2.2.2.2.2.2.2.2.2.2.2.2.2.2.1, kb hSw.2.2.2.2.2.2.2.2.2.2.2.2.2.2.2.2.2.2.2.2.2.2.2.2.2.2.2.2.2.2.2.2 hb⟩))))); (try simp only [Act.put, List.setIfInBounds_toArray, List.set_cons_zero, List.set_cons_succ])))
  refine Plan.done ?_
  intro w2 T
  (try dsimp only at T)
  clear ha_0 ha_1 hb_0 hb_1 hc_0 hc_1 hd_0 hd_1 hr_0 fr_0 hr_1 fr_1 hr_2 fr_2 hr_3 fr_3 hr_4 fr_4 hr_5 fr_5 hr_6 fr_6 hr_7 fr_7 hr_8 fr_8 hr_9 fr_9 hp_0 hq_0 he_0 he_1 hla hlb hlc hld hlr hna0 hna1 hka1 hna2 hka2 hnb0 hkb1 hnc0 hkc1 hnd0 hkd1 hnr0 hkr1 hB hsz
  obtain ⟨ha_0, ha_1, hb_0, hb_1, hc_0, hc_1, hd_0, hd_1, hr_0, fr_0, hr_1, fr_1, hr_2, fr_2, hr_3, fr_3, hr_4, fr_4, hr_5, fr_5, hr_6, fr_6, hr_7, fr_7, hr_8, fr_8, hr_9, fr_9, hp_0, hq_0, he_0, he_1, hB⟩ := T
  have hsz := hB.size
  have hla := klt ha_0
  have hlb := klt hb_0
  have hlc := klt hc_0
  have hld := klt hd_0
  have hlr := klt hr_0
  have hlp := klt hp_0
  have hlq := klt hq_0
  have hle := klt he_0
  have hna0 : ¬ (w.heap.size = w2.heap.size) := by omega
  have hna1 : ¬ (w.heap.size = w2.heap.size + 1) := by omega
  have hka1 : w.heap.size < w2.heap.size + 1 := by omega
  have hna2 : ¬ (w.heap.size = w2.heap.size + 1 + 1) := by omega
  have hka2 : w.heap.size < w2.heap.size + 1 + 1 := by omega
  have hnb0 : ¬ (w.heap.size + 1 = w2.heap.size) := by omega
  have hkb1 : w.heap.size < w2.heap.size := by omega
  have hnc0 : ¬ (w.heap.size + 1 + 1 = w2.heap.size) := by omega
  have hkc1 : w.heap.size + 1 < w2.heap.size := by omega
  have hnd0 : ¬ (w.heap.size + 1 + 1 + 1 = w2.heap.size) := by omega
  have hkd1 : w.heap.size + 1 + 1 < w2.heap.size := by omega
  have hnr0 : ¬ (w.heap.size + 1 + 1 + 1 + 1 = w2.heap.size) := by omega
  have hkr1 : w.heap.size + 1 + 1 + 1 < w2.heap.size := by omega
  have hnp0 : ¬ (w.heap.size + 1 + 1 + 1 + 1 + 1 = w2.heap.size) := by omega
  have hkp1 : w.heap.size + 1 + 1 + 1 + 1 < w2.heap.size := by omega
  have hnq0 : ¬ (w.heap.size + 1 + 1 + 1 + 1 + 1 + 1 = w2.heap.size) := by omega
  have hkq1 : w.heap.size + 1 + 1 + 1 + 1 + 1 < w2.heap.size := by omega
  have hne0 : ¬ (w.heap.size + 1 + 1 + 1 + 1 + 1 + 1 + 1 + 1 = w2.heap.size) := by omega
  have hne1 : ¬ (w.heap.size + 1 + 1 + 1 + 1 + 1 + 1 + 1 = w2.heap.size) := by omega
  have hke1 : w.heap.size + 1 + 1 + 1 + 1 + 1 + 1 + 1 < w2.heap.size := by omega
  have hke2 : w.heap.size + 1 + 1 + 1 + 1 + 1 + 1 < w2.heap.size := by omega
  go_wp2_with fail
  refine wp_region_planT 8 (fun w' => w'.cell? ⟨w.heap.size, 0, none⟩ = some (B8 x) ∧ w'.cell? ⟨w.heap.size, 1, none⟩ = some (B8 t) ∧ w'.cell? ⟨w.heap.size + 1, 0, none⟩ = some (B8 y) ∧ w'.cell? ⟨w.heap.size + 1, 1, none⟩ = some (B8 s) ∧ w'.cell? ⟨w.heap.size + 1 + 1, 0, none⟩ = some (.bool c) ∧ w'.cell? ⟨w.heap.size + 1 + 1, 1, none⟩ = some (.bool ct) ∧ w'.cell? ⟨w.heap.size + 1 + 1 + 1 + 1, 0, none⟩ = some (B8 (addV x (~~~y) c).a) ∧ w'.frozen? ⟨w.heap.size + 1 + 1 + 1 + 1, 0, none⟩ = false ∧ w'.cell? ⟨w.heap.size + 1 + 1 + 1 + 1, 1, none⟩ = some (B8 0#8) ∧ w'.frozen? ⟨w.heap.size + 1 + 1 + 1 + 1, 1, none⟩ = false ∧ w'.cell? ⟨w.heap.size + 1 + 1 + 1 + 1, 2, none⟩ = some (.bool (addV x (~~~y) c).n) ∧ w'.frozen? ⟨w.heap.size + 1 + 1 + 1 + 1, 2, none⟩ = false ∧ w'.cell? ⟨w.heap.size + 1 + 1 + 1 + 1, 3, none⟩ = some (.bool false) ∧ w'.frozen? ⟨w.heap.size + 1 + 1 + 1 + 1, 3, none⟩ = false ∧ w'.cell? ⟨w.heap.size + 1 + 1 + 1 + 1, 4, none⟩ = some (.bool (addV x (~~~y) c).v) ∧ w'.frozen? ⟨w.heap.size + 1 + 1 + 1 + 1, 4, none⟩ = false ∧ w'.cell? ⟨w.heap.size + 1 + 1 + 1 + 1, 5, none⟩ = some (.bool false) ∧ w'.frozen? ⟨w.heap.size + 1 + 1 + 1 + 1, 5, none⟩ = false ∧ w'.cell? ⟨w.heap.size + 1 + 1 + 1 + 1, 6, none⟩ = some (.bool (addV x (~~~y) c).z) ∧ w'.frozen? ⟨w.heap.size + 1 + 1 + 1 + 1, 6, none⟩ = false ∧ w'.cell? ⟨w.heap.size + 1 + 1 + 1 + 1, 7, none⟩ = some (.bool false) ∧ w'.frozen? ⟨w.heap.size + 1 + 1 + 1 + 1, 7, none⟩ = false ∧ w'.cell? ⟨w.heap.size + 1 + 1 + 1 + 1, 8, none⟩ = some (.bool (addV x (~~~y) c).c) ∧ w'.frozen? ⟨w.heap.size + 1 + 1 + 1 + 1, 8, none⟩ = false ∧ w'.cell? ⟨w.heap.size + 1 + 1 + 1 + 1, 9, none⟩ = some (.bool false) ∧ w'.frozen? ⟨w.heap.size + 1 + 1 + 1 + 1, 9, none⟩ = false ∧ w'.cell? ⟨w.heap.size + 1 + 1 + 1 + 1 + 1, 0, none⟩ = some (.pointer (some ⟨w.heap.size + 1 + 1 + 1 + 1, 0, none⟩)) ∧ w'.cell? ⟨w.heap.size + 1 + 1 + 1 + 1 + 1 + 1, 0, none⟩ = some (B8 (secT t s ct)) ∧ w'.cell? ⟨w.heap.size + 1 + 1 + 1 + 1 + 1 + 1 + 1 + 1, 0, none⟩ = some (.bool true) ∧ w'.cell? ⟨w.heap.size + 1 + 1 + 1 + 1 + 1 + 1 + 1 + 1, 1, none⟩ = some (.bool dt) ∧ Below w.heap.size w w') (by kernel_rfl) (by kernel_rfl) (by kernel_rfl) (by kernel_rfl) ?_ ?_
  · (try dsimp only)
    refine ⟨?_, ?_, ?_, ?_, ?_, ?_, ?_, ?_, ?_, ?_, ?_, ?_, ?_, ?_, ?_, ?_, ?_, ?_, ?_, ?_, ?_, ?_, ?_, ?_, ?_, ?_, ?_, ?_, ?_, ?_, ?_⟩ <;> first | (go_simp; done) | (simp [*]; done) | go_grown
  (try simp only [List.append_eq, List.cons_append, List.nil_append, List.toList_toArray, List.take_succ_cons, List.take_zero, List.drop_succ_cons, List.drop_zero])
  repeat (first
    | (refine Plan.val (v := ?_) ?_ ?_ ?_; rotate_left; (· rfl); (· (intro W hSw; (try dsimp only at hSw); go_simp; all_goals (first | (with_reducible rfl) | (constructor <;> (with_reducible rfl))))); (try simp only [Act.put, List.setIfInBounds_toArray, List.set_cons_zero, List.set_cons_succ]))
    | (refine Plan.no ?_ ?_; (· rfl); (try simp only [Act.put, List.setIfInBounds_toArray, List.set_cons_zero, List.set_cons_succ]))
    | (refine Plan.call (v := ?_) (f := ?_) (args := ?_) ?_ ?_ ?_ ?_; rotate_left 3; (· rfl); (· (intro W hSw; (try dsimp only at hSw); go_simp; all_goals (first | (with_reducible rfl) | (constructor <;> (with_reducible rfl))))); (· (intro W hSw; (try dsimp only at hSw); first | (go_at_call 30; ((with_reducible refine (count_c _ _ _).mono ?_); rintro _ wz ⟨rfl, hb⟩; (refine ⟨?_, ?_⟩; (· with_reducible rfl); exact ⟨kc hb hSw.1, kc hb hSw.2.1, kc hb hSw.2.2.1, kc hb hSw.2.2.2.1, kc hb hSw.2.2.2.2.1, kc hb hSw.2.2.2.2.2.1, kc hb hSw.2.2.2.2.2.2.1, kfz hb (klt hSw.2.2.2.2.2.2.1) hSw.2.2.2.2.2.2.2.1, kc hb hSw.2.2.2.2.2.2.2.2.1, kfz hb (klt hSw.2.2.2.2.2.2.2.2.1) hSw.2.2.2.2.2.2.2.2.2.1, kc hb hSw.2.2.2.2.2.2.2.2.2.2.1, kfz hb (klt hSw.2.2.2.2.2.2.2.2.2.2.1) hSw.2.2.2.2.2.2.2.2.2.2.2.1, kc hb hSw.2.2.2.2.2.2.2.2.2.2.2.2.1, kfz hb (klt hSw.2.2.2.2.2.2.2.2.2.2.2.2.1) hSw.2.2.2.2.2.2.2.2.2.2.2.2.2.1, kc hb hSw.2.2.2.2.2.2.2.2.2.2.2.2.2.2.1, kfz hb (klt hSw.2.2.2.2.2.2.2.2.2.2.2.2.2.2.1) hSw.2.2.2.2.2.2.2.2.2.2.2.2.2.2.2.1, kc hb hSw.2.2.2.2.2.2.2.2.2.2.2.2.2.2.2.2.1, kfz hb (klt hSw.2.2.2.2.2.2.2.2.2.2.2.2.2.2.2.2.1) hSw.2.2.2.2.2.2.2.2.2.2.2.2.2.2.2.2.2.1, kc hb hSw.2.2.2.2.2.2.2.2.2.2.2.2.2.2.2.2.2.2.1, kfz hb (klt hSw.2.2.2.2.2.2.2.2.2.2.2.2.2.2.2.2.2.2.1) hSw.2.2.2.2.2.2.2.2.2.2.2.2.2.2.2.2.2.2.2.1, kc hb hSw.2.2.2.2.2.2.2.2.2.2.2.2.2.2.2.2.2.2.2.2.1, kfz hb (klt hSw.2.2.2.2.2.2.2.2.2.2.2.2.2.2.2.2.2.2.2.2.1) hSw.2.2.2.2.2.2.2.2.2.2.2.2.2.2.2.2.2.2.2.2.2.1, kc hb hSw.2.2.2.2.2.2.2.2.2.2.2.2.2.2.2.2.2.2.2.2.2.2.1, kfz hb (klt hSw.2.2.2.2.2.2.2.2.2.2.2.2.2.2.2.2.2.2.2.2.2.2.1) hSw.2.2.2.2.2.2.2.2.2.2.2.2.2.2.2.2.2.2.2.2.2.2.2.1, kc hb hSw.2.2.2.2.2.2.2.2.2.2.2.2.2.2.2.2.2.2.2.2.2.2.2.2.1, kfz hb (klt hSw.2.2.2.2.2.2.2.2.2.2.2.2.2.2.2.2.2.2.2.2.2.2.2.2.1) hSw.2.2.2.2.2.2.2.2.2.2.2.2.2.2.2.2.2.2.2.2.2.2.2.2.2.1, kc hb hSw.2.2.2.2.2.2.2.2.2.2.2.2.2.2.2.2.2.2.2.2.2.2.2.2.2.2.1, kc hb hSw.2.2.2.2.2.2.2.2.2.2.2.2.2.2.2.2.2.2.2.2.2.2.2.2.2.2.2.1, kc hb hSw.2.2.2.2.2.2.2.2.2.2.2.2.2.2.2.2.2.2.2.2.2.2.2.2.2.2.2.2.1, kc hb hSw.2.2.2.2.2.2.2.2.2.2.2.2.2.2.2.2.2.2.2.2.2.2.2.2.2.2.2.2.2.1, kb hSw.2.2.2.2.2.2.2.2.2.2.2.2.2.2.2.2.2.2.2.2.2.2.2.2.2.2.2.2.2.2 hb⟩))) | (go_at_call 29; ((with_reducible refine (addDigits_c _ _ _ _).mono ?_); rintro _ wz ⟨rfl, hb⟩; (refine ⟨?_, ?_⟩; (· with_reducible rfl); exact ⟨kc hb hSw.1, kc hb hSw.2.1, kc hb hSw.2.2.1, kc hb hSw.2.2.2.1, kc hb hSw.2.2.2.2.1, kc hb hSw.2.2.2.2.2.1, kc hb hSw.2.2.2.2.2.2.1, kfz hb (klt hSw.2.2.2.2.2.2.1) hSw.2.2.2.2.2.2.2.1, kc hb hSw.2.2.2.2.2.2.2.2.1, kfz hb (klt hSw.2.2.2.2.2.2.2.2.1) hSw.2.2.2.2.2.2.2.2.2.1, kc hb hSw.2.2.2.2.2.2.2.2.2.2.1, kfz hb (klt hSw.2.2.2.2.2.2.2.2.2.2.1) hSw.2.2.2.2.2.2.2.2.2.2.2.1, kc hb hSw.2.2.2.2.2.2.2.2.2.2.2.2.1, kfz hb (klt hSw.2.2.2.2.2.2.2.2.2.2.2.2.1) hSw.2.2.2.2.2.2.2.2.2.2.2.2.2.1, kc hb hSw.2.2.2.2.2.2.2.2.2.2.2.2.2.2.1, kfz hb (klt hSw.2.2.2.2.2.2.2.2.2.2.2.2.2.2.1) hSw.2.2.2.2.2.2.2.2.2.2.2.2.2.2.2.1, kc hb hSw.2.2.2.2.2.2.2.2.2.2.2.2.2.2.2.2.1, kfz hb (klt hSw.2.2.2.2.2.2.2.2.2.2.2.2.2.2.2.2.1) hSw.2.2.2.2.2.2.2.2.2.2.2.2.2.2.2.2.2.1, kc hb hSw.2.2.2.2.2.2.2.2.2.2.2.2.2.2.2.2.2.2.1, kfz hb (klt hSw.2.2.2.2.2.2.2.2.2.2.2.2.2.2.2.2.2.2.1) hSw.2.2.2.2.2.2.2.2.2.2.2.2.2.2.2.2.2.2.2.1, kc hb hSw.2.2.2.2.2.2.2.2.2.2.2.2.2.2.2.2.2.2.2.2.1, kfz hb (klt hSw.2.2.2.2.2.2.2.2.2.2.2.2.2.2.2.2.2.2.2.2.1) hSw.2.2.2.2.2.2.2.2.2.2.2.2.2.2.2.2.2.2.2.2.2.1, kc hb hSw.2.2.2.2.2.2.2.2.2.2.2.2.2.2.2.2.2.2.2.2.2.2.1, kfz hb (klt hSw.2.2.2.2.2.2.2.2.2.2.2.2.2.2.2.2.2.2.2.2.2.2.1) hSw.2.2.2.2.2.2.2.2.2.2.2.2.2.2.2.2.2.2.2.2.2.2.2.1, kc hb hSw.2.2.2.2.2.2.2.2.2.2.2.2.2.2.2.2.2.2.2.2.2.2.2.2.1, kfz hb (klt hSw.2.2.2.2.2.2.2.2.2.2.2.2.2.2.2.2.2.2.2.2.2.2.2.2.1) hSw.2.2.2.2.2.2.2.2.2.2.2.2.2.2.2.2.2.2.2.2.2.2.2.2.2.1, kc hb hSw.2.2.2.2.2.2.2.2.2.2.2.2.2.2.2.2.2.2.2.2.2.2.2.2.2.2.1, kc hb hSw.2.2.2.2.2.2.2.2.2.2.2.2.2.2.2.2.2.2.2.2.2.2.2.2.2.2.2.1, kc hb hSw.2.2.2.2.2.2.2.2.2.2.2.2.2.2.2.2.2.2.2.2.2.2.2.2.2.2.2.2.1, kc hb hSw.2.2.2.2.2.2.2.2.2.2.2.2.2.2.2.2.2.2.2.2.2.2.2.2.2.2.2.2.2.1, kb hSw.2.2.2.2.2.2.2.2.2.2.2.2.2.2.2.2.2.2.2.2.2.2.2.2.2.2.2.2.2.2 hb⟩))) | (go_at_call 31; ((with_reducible refine (addBits_c _ _ _ _).mono ?_); rintro _ wz ⟨rfl, hb⟩; (refine ⟨?_, ?_⟩; (· with_reducible rfl); exact ⟨kc hb hSw.1, kc hb hSw.2.1, kc hb hSw.2.2.1, kc hb hSw.2.2.2.1, kc hb hSw.2.2.2.2.1, kc hb hSw.2.2.2.2.2.1, kc hb hSw.2.2.2.2.2.2.1, kfz hb (klt hSw.2.2.2.2.2.2.1) hSw.2.2.2.2.2.2.2.1, kc hb hSw.2.2.2.2.2.2.2.2.1, kfz hb (klt hSw.2.2.2.2.2.2.2.2.1) hSw.2.2.2.2.2.2.2.2.2.1, kc hb hSw.2.2.2.2.2.2.2.2.2.2.1, kfz hb (klt hSw.2.2.2.2.2.2.2.2.2.2.1) hSw.2.2.2.2.2.2.2.2.2.2.2.1, kc hb hSw.2.2.2.2.2.2.2.2.2.2.2.2.1, kfz hb (klt hSw.2.2.2.2.2.2.2.2.2.2.2.2.1) hSw.2.2.2.2.2.2.2.2.2.2.2.2.2.1, kc hb hSw.2.2.2.2.2.2.2.2.2.2.2.2.2.2.1, kfz hb (klt hSw.2.2.2.2.2.2.2.2.2.2.2.2.2.2.1) hSw.2.2.2.2.2.2.2.2.2.2.2.2.2.2.2.1, kc hb hSw.2.2.2.2.2.2.2.2.2.2.2.2.2.2.2.2.1, kfz hb (klt hSw.2.2.2.2.2.2.2.2.2.2.2.2.2.2.2.2.1) hSw.2.2.2.2.2.2.2.2.2.2.2.2.2.2.2.2.2.1, kc hb hSw.2.2.2.2.2.2.2.2.2.2.2.2.2.2.2.2.2.2.1, kfz hb (klt hSw.2.2.2.2.2.2.2.2.2.2.2.2.2.2.2.2.2.2.1) hSw.2.2.2.2.2.2.2.2.2.2.2.2.2.2.2.2.2.2.2.1, kc hb hSw.2.2.2.2.2.2.2.2.2.2.2.2.2.2.2.2.2.2.2.2.1, kfz hb (klt hSw.2.2.2.2.2.2.2.2.2.2.2.2.2.2.2.2.2.2.2.2.1) hSw.2.2.2.2.2.2.2.2.2.2.2.2.2.2.2.2.2.2.2.2.2.1, kc hb hSw.2.2.2.2.2.2.2.2.2.2.2.2.2.2.2.2.2.2.2.2.2.2.1, kfz hb (klt hSw.2.2.2.2.2.2.2.2.2.2.2.2.2.2.2.2.2.2.2.2.2.2.1) hSw.2.2.2.2.2.2.2.2.2.2.2.2.2.2.2.2.2.2.2.2.2.2.2.1, kc hb hSw.2.2.2.2.2.2.2.2.2.2.2.2.2.2.2.2.2.2.2.2.2.2.2.2.1, kfz hb (klt hSw.2.2.2.2.2.2.2.2.2.2.2.2.2.2.2.2.2.2.2.2.2.2.2.2.1) hSw.2.2.2.2.2.2.2.2.2.2.2.2.2.2.2.2.2.2.2.2.2.2.2.2.2.1, kc hb hSw.2.2.2.2.2.2.2.2.2.2.2.2.2.2.2.2.2.2.2.2.2.2.2.2.2.2.1, kc hb hSw.2.2.2.2.2.2.2.2.2.2.2.2.2.2.2.2.2.2.2.2.2.2.2.2.2.2.2.1, kc hb hSw.2.2.2.2.2.2.2.2.2.2.2.2.2.2.2.2.2.2.2.2.2.2.2.2.2.2.2.2.1, kc hb hSw.2.2.2.2.2.2.2.2.2.2.2.2.2.2.2.2.2.2.2.2.2.2.2.2.2.2.2.2.2.1, kb hSw.2.2.2.2.2.2.2.2.2.2.2.2.2.2.2.2.2.2.2.2.2.2.2.2.2.2.2.2.2.2 hb⟩))) | (go_at_call 37; ((with_reducible refine (subDigits_c _ _ _ _).mono ?_); rintro _ wz ⟨rfl, hb⟩; (refine ⟨?_, ?_⟩; (· with_reducible rfl); exact ⟨kc hb hSw.1, kc hb hSw.2.1, kc hb hSw.2.2.1, kc hb hSw.2.2.2.1, kc hb hSw.2.2.2.2.1, kc hb hSw.2.2.2.2.2.1, kc hb hSw.2.2.2.2.2.2.1, kfz hb (klt hSw.2.2.2.2.2.2.1) hSw.2.2.2.2.2.2.2.1, kc hb hSw.2.2.2.2.2.2.2.2.1, kfz hb (klt hSw.2.2.2.2.2.2.2.2.1) hSw.2.2.2.2.2.2.2.2.2.1, kc hb hSw.2.2.2.2.2.2.2.2.2.2.1, kfz hb (klt hSw.2.2.2.2.2.2.2.2.2.2.1) hSw.2.2.2.2.2.2.2.2.2.2.2.1, kc hb hSw.2.2.2.2.2.2.2.2.2.2.2.2.1, kfz hb (klt hSw.2.2.2.2.2.2.2.2.2.2.2.2.1) hSw.2.2.2.2.2.2.2.2.2.2.2.2.2.1, kc hb hSw.2.2.2.2.2.2.2.2.2.2.2.2.2.2.1, kfz hb (klt hSw.2.2.2.2.2.2.2.2.2.2.2.2.2.2.1) hSw.2.2.2.2.2.2.2.2.2.2.2.2.2.2.2.1, kc hb hSw.2.2.2.2.2.2.2.2.2.2.2.2.2.2.2.2.1, kfz hb (klt hSw.2.2.2.2.2.2.2.2.2.2.2.2.2.2.2.2.1) hSw.2.2.2.2.2.2.2.2.2.2.2.2.2.2.2.2.2.1, kc hb hSw.2.2.2.2.2.2.2.2.2.2.2.2.2.2.2.2.2.2.1, kfz hb (klt hSw.2.2.2.2.2.2.2.2.2.2.2.2.2.2.2.2.2.2.1) hSw.2.2.2.2.2.2.2.2.2.2.2.2.2.2.2.2.2.2.2.1, kc hb hSw.2.2.2.2.2.2.2.2.2.2.2.2.2.2.2.2.2.2.2.2.1, kfz hb (klt hSw.2.2.2.2.2.2.2.2.2.2.2.2.2.2.2.2.2.2.2.2.1) hSw.2.2.2.2.2.2.2.2.2.2.2.2.2.2.2.2.2.2.2.2.2.1, kc hb hSw.2.2.2.2.2.2.2.2.2.2.2.2.2.2.2.2.2.2.2.2.2.2.1, kfz hb (klt hSw.2.2.2.2.2.2.2.2.2.2.2.2.2.2.2.2.2.2.2.2.2.2.1) hSw.2.2.2.2.2.2.2.2.2.2.2.2.2.2.2.2.2.2.2.2.2.2.2.1, kc hb hSw.2.2.2.2.2.2.2.2.2.2.2.2.2.2.2.2.2.2.2.2.2.2.2.2.1, kfz hb (klt hSw.2.2.2.2.2.2.2.2.2.2.2.2.2.2.2.2.2.2.2.2.2.2.2.2.1) hSw.2.2.2.2.2.2.2.2.2.2.2.2.2.2.2.2.2.2.2.2.2.2.2.2.2.1, kc hb hSw.2.2.2.2.2.2.2.2.2.2.2.2.2.2.2.2.2.2.2.2.2.2.2.2.2.2.1, kc hb hSw.2.2.2.2.2.2.2.2.2.2.2.2.2.2.2.2.2.2.2.2.2.2.2.2.2.2.2.1, kc hb hSw.2.2.2.2.2.2.2.2.2.2.2.2.2.2.2.2.2.2.2.2.2.2.2.2.2.2.2.2.1, kc hb hSw.2.2.2.2.2.2.2.2.2.2.2.2.2.2.2.2.2.2.2.2.2.2.2.2.2.2.2.2.2.1, kb hSw.2.2.2.2.2.2.2.2.2.2.2.2.2.2.2.2.2.2.2.2.2.2.2.2.2.2.2.2.2.2 hb⟩))))); (try simp only [Act.put, List.setIfInBounds_toArray, List.set_cons_zero, List.set_cons_succ])))
  refine Plan.done ?_
  intro w3 T
  (try dsimp only at T)
  clear ha_0 ha_1 hb_0 hb_1 hc_0 hc_1 hd_0 hd_1 hr_0 fr_0 hr_1 fr_1 hr_2 fr_2 hr_3 fr_3 hr_4 fr_4 hr_5 fr_5 hr_6 fr_6 hr_7 fr_7 hr_8 fr_8 hr_9 fr_9 hp_0 hq_0 he_0 he_1 hB hsz hla hlb hlc hld hlr hlp hlq hle hna0 hna1 hka1 hna2 hka2 hnb0 hkb1 hnc0 hkc1 hnd0 hkd1 hnr0 hkr1 hnp0 hkp1 hnq0 hkq1 hne0 hne1 hke1 hke2
  obtain ⟨ha_0, ha_1, hb_0, hb_1, hc_0, hc_1, hr1_0, fr1_0, hr1_1, fr1_1, hr1_2, fr1_2, hr1_3, fr1_3, hr1_4, fr1_4, hr1_5, fr1_5, hr1_6, fr1_6, hr1_7, fr1_7, hr1_8, fr1_8, hr1_9, fr1_9, hp_0, hq_0, he_0, he_1, hB⟩ := T
  have hsz := hB.size
  have hla := klt ha_0
  have hlb := klt hb_0
  have hlc := klt hc_0
  have hlr1 := klt hr1_0
  have hlp := klt hp_0
  have hlq := klt hq_0
  have hle := klt he_0
  have hna0 : ¬ (w.heap.size = w3.heap.size) := by omega
  have hna1 : ¬ (w.heap.size = w3.heap.size + 1) := by omega
  have hka1 : w.heap.size < w3.heap.size + 1 := by omega
  have hna2 : ¬ (w.heap.size = w3.heap.size + 1 + 1) := by omega
  have hka2 : w.heap.size < w3.heap.size + 1 + 1 := by omega
  have hnb0 : ¬ (w.heap.size + 1 = w3.heap.size) := by omega
  have hkb1 : w.heap.size < w3.heap.size := by omega
  have hnc0 : ¬ (w.heap.size + 1 + 1 = w3.heap.size) := by omega
  have hkc1 : w.heap.size + 1 < w3.heap.size := by omega
  have hnr10 : ¬ (w.heap.size + 1 + 1 + 1 + 1 = w3.heap.size) := by omega
  have hnr11 : ¬ (w.heap.size + 1 + 1 + 1 = w3.heap.size) := by omega
  have hkr11 : w.heap.size + 1 + 1 + 1 < w3.heap.size := by omega
  have hkr12 : w.heap.size + 1 + 1 < w3.heap.size := by omega
  have hnp0 : ¬ (w.heap.size + 1 + 1 + 1 + 1 + 1 = w3.heap.size) := by omega
  have hkp1 : w.heap.size + 1 + 1 + 1 + 1 < w3.heap.size := by omega
  have hnq0 : ¬ (w.heap.size + 1 + 1 + 1 + 1 + 1 + 1 = w3.heap.size) := by omega
  have hkq1 : w.heap.size + 1 + 1 + 1 + 1 + 1 < w3.heap.size := by omega
  have hne0 : ¬ (w.heap.size + 1 + 1 + 1 + 1 + 1 + 1 + 1 + 1 = w3.heap.size) := by omega
  have hne1 : ¬ (w.heap.size + 1 + 1 + 1 + 1 + 1 + 1 + 1 = w3.heap.size) := by omega
  have hke1 : w.heap.size + 1 + 1 + 1 + 1 + 1 + 1 + 1 < w3.heap.size := by omega
  have hke2 : w.heap.size + 1 + 1 + 1 + 1 + 1 + 1 < w3.heap.size := by omega
  go_upto_region 5 with fail
  refine wp_pin (fun w' => w'.cell? ⟨w.heap.size + 1 + 1 + 1 + 1, 0, none⟩ = some (B8 (BitVec.ofInt 8 (eH x y c))) ∧ w'.frozen? ⟨w.heap.size + 1 + 1 + 1 + 1, 0, none⟩ = false ∧ w'.cell? ⟨w.heap.size + 1 + 1 + 1 + 1, 1, none⟩ = some (B8 0#8) ∧ w'.frozen? ⟨w.heap.size + 1 + 1 + 1 + 1, 1, none⟩ = false ∧ w'.cell? ⟨w.heap.size + 1 + 1 + 1 + 1, 2, none⟩ = some (.bool (addV x (~~~y) c).n) ∧ w'.frozen? ⟨w.heap.size + 1 + 1 + 1 + 1, 2, none⟩ = false ∧ w'.cell? ⟨w.heap.size + 1 + 1 + 1 + 1, 3, none⟩ = some (.bool false) ∧ w'.frozen? ⟨w.heap.size + 1 + 1 + 1 + 1, 3, none⟩ = false ∧ w'.cell? ⟨w.heap.size + 1 + 1 + 1 + 1, 4, none⟩ = some (.bool (addV x (~~~y) c).v) ∧ w'.frozen? ⟨w.heap.size + 1 + 1 + 1 + 1, 4, none⟩ = false ∧ w'.cell? ⟨w.heap.size + 1 + 1 + 1 + 1, 5, none⟩ = some (.bool false) ∧ w'.frozen? ⟨w.heap.size + 1 + 1 + 1 + 1, 5, none⟩ = false ∧ w'.cell? ⟨w.heap.size + 1 + 1 + 1 + 1, 6, none⟩ = some (.bool (addV x (~~~y) c).z) ∧ w'.frozen? ⟨w.heap.size + 1 + 1 + 1 + 1, 6, none⟩ = false ∧ w'.cell? ⟨w.heap.size + 1 + 1 + 1 + 1, 7, none⟩ = some (.bool false) ∧ w'.frozen? ⟨w.heap.size + 1 + 1 + 1 + 1, 7, none⟩ = false ∧ w'.cell? ⟨w.heap.size + 1 + 1 + 1 + 1, 8, none⟩ = some (.bool (addV x (~~~y) c).c) ∧ w'.frozen? ⟨w.heap.size + 1 + 1 + 1 + 1, 8, none⟩ = false ∧ w'.cell? ⟨w.heap.size + 1 + 1 + 1 + 1, 9, none⟩ = some (.bool false) ∧ w'.frozen? ⟨w.heap.size + 1 + 1 + 1 + 1, 9, none⟩ = false ∧ w'.cell? ⟨w.heap.size + 1 + 1 + 1 + 1 + 1, 0, none⟩ = some (.pointer (some ⟨w.heap.size + 1 + 1 + 1 + 1, 0, none⟩)) ∧ w'.cell? ⟨w.heap.size + 1 + 1 + 1 + 1 + 1 + 1, 0, none⟩ = some (B8 (secT t s ct)) ∧ w'.cell? ⟨w.heap.size + 1 + 1 + 1 + 1 + 1 + 1 + 1 + 1, 0, none⟩ = some (.bool true) ∧ w'.cell? ⟨w.heap.size + 1 + 1 + 1 + 1 + 1 + 1 + 1 + 1, 1, none⟩ = some (.bool dt) ∧ Below w.heap.size w w') ?_ ?_
  · (try dsimp only)
    refine ⟨?_, ?_, ?_, ?_, ?_, ?_, ?_, ?_, ?_, ?_, ?_, ?_, ?_, ?_, ?_, ?_, ?_, ?_, ?_, ?_, ?_, ?_, ?_, ?_, ?_⟩ <;> first | (go_simp; done) | (simp [*]; done) | go_grown
  intro w4 T
  (try dsimp only at T)
  clear ha_0 ha_1 hb_0 hb_1 hc_0 hc_1 hr1_0 fr1_0 hr1_1 fr1_1 hr1_2 fr1_2 hr1_3 fr1_3 hr1_4 fr1_4 hr1_5 fr1_5 hr1_6 fr1_6 hr1_7 fr1_7 hr1_8 fr1_8 hr1_9 fr1_9 hp_0 hq_0 he_0 he_1 hB hsz hla hlb hlc hlr1 hlp hlq hle hna0 hna1 hka1 hna2 hka2 hnb0 hkb1 hnc0 hkc1 hnr10 hnr11 hkr11 hkr12 hnp0 hkp1 hnq0 hkq1 hne0 hne1 hke1 hke2
  obtain ⟨hr2_0, fr2_0, hr2_1, fr2_1, hr2_2, fr2_2, hr2_3, fr2_3, hr2_4, fr2_4, hr2_5, fr2_5, hr2_6, fr2_6, hr2_7, fr2_7, hr2_8, fr2_8, hr2_9, fr2_9, hp_0, hq_0, he_0, he_1, hB⟩ := T
  have hsz := hB.size
  have hlr2 := klt hr2_0
  have hlp := klt hp_0
  have hlq := klt hq_0
  have hle := klt he_0
  have hnr20 : ¬ (w.heap.size + 1 + 1 + 1 + 1 = w4.heap.size) := by omega
  have hnr21 : ¬ (w.heap.size + 1 + 1 + 1 = w4.heap.size) := by omega
  have hkr21 : w.heap.size + 1 + 1 + 1 < w4.heap.size := by omega
  have hnr22 : ¬ (w.heap.size + 1 + 1 = w4.heap.size) := by omega
  have hkr22 : w.heap.size + 1 + 1 < w4.heap.size := by omega
  have hnp0 : ¬ (w.heap.size + 1 + 1 + 1 + 1 + 1 = w4.heap.size) := by omega
  have hkp1 : w.heap.size + 1 + 1 + 1 + 1 < w4.heap.size := by omega
  have hnq0 : ¬ (w.heap.size + 1 + 1 + 1 + 1 + 1 + 1 = w4.heap.size) := by omega
  have hkq1 : w.heap.size + 1 + 1 + 1 + 1 + 1 < w4.heap.size := by omega
  have hne0 : ¬ (w.heap.size + 1 + 1 + 1 + 1 + 1 + 1 + 1 + 1 = w4.heap.size) := by omega
  have hne1 : ¬ (w.heap.size + 1 + 1 + 1 + 1 + 1 + 1 + 1 = w4.heap.size) := by omega
  have hke1 : w.heap.size + 1 + 1 + 1 + 1 + 1 + 1 + 1 < w4.heap.size := by omega
  have hke2 : w.heap.size + 1 + 1 + 1 + 1 + 1 + 1 < w4.heap.size := by omega
  go_wp2_with fail
  refine leaves_cons (f := 43) (args := #[.pointer (some ⟨w.heap.size + 1 + 1 + 1 + 1 + 1 + 1, 0, none⟩), .pointer (some ⟨w.heap.size + 1 + 1 + 1 + 1 + 1 + 1 + 1 + 1, 0, none⟩), .pointer (some ⟨w.heap.size + 1 + 1 + 1 + 1 + 1, 0, none⟩)]) (by simp) (by simp [go_sem]) ?_
  refine (hider1_c (subD x y c) (secT t s ct) true dt (w.heap.size + 1 + 1 + 1 + 1) (w.heap.size + 1 + 1 + 1 + 1 + 1) (w.heap.size + 1 + 1 + 1 + 1 + 1 + 1) (w.heap.size + 1 + 1 + 1 + 1 + 1 + 1 + 1 + 1) _ (by constructor <;> first | omega | (go_simp; done) | (go_simp; rfl)) (fun h => by cases h)).mono ?_
  rintro e u' wz ⟨rfl, rfl, hH⟩
  obtain ⟨q0, q1, q2, q3, q4, q5, q6, q7, q8, q9, hH⟩ := hH
  simp [Leaves, settle, results, Try.results15, go_sem, q0, q1, q2, q3, q4, q5, q6, q7, q8, q9]
  have hG := hH.mono (show w.heap.size ≤ w.heap.size + 1 + 1 + 1 + 1 by omega)
  refine Below.trans ?_ hG
  go_grown

theorem sub_n (x t y s : BitVec 8) (c ct d dt : Bool) (w : World) : Calls Try.prog 15 #[TB x t, TB y s, TBit c ct, TBit d dt] w fun e w' => e = .returned (subS x t y s c ct d dt) ∧ Below w.heap.size w w' := by
  cases d
  · exact sub_false x t y s c ct dt w
  · exact sub_true x t y s c ct dt w
end Go.Proofs.Ytdmgdldadpkhgaa
