/-
  What the document's Sub comes to.
-/
import Derived.Test.YtdmgdldadpkhgaaRAdd
import Derived.Test.YtdmgdldadpkhgaaPlanA
set_option linter.unusedSimpArgs false
set_option linter.unusedVariables false
namespace Go.Proofs.Ytdmgdldadpkhgaa
open Go.RowKit

set_option maxRecDepth 100000 in
set_option maxHeartbeats 2000000 in
theorem rSub_false_false (x t y s : BitVec 8) (c ct : Bool) (w : World) : Calls Try.prog 16 #[TB x t, TB y s, TBit c ct, TBit false false] w fun e w' =>
    e = .returned (VS (addV x (~~~y) c) (hidT (secT t s ct) (addV x (~~~y) c).a false false)) ∧ Below w.heap.size w w' := by
  have k1 := i64_u8
  have k2 := u8_com y
  have k3 := sec_one
  go_enter Try.func16, Try.ntmps16
  go_wp2_with fail
  refine wp_region_planA 12 11 9 #[.int .i64 0, .bool false, .bool false, .bool false, .bool false] 57 (fun w' => w'.cell? ⟨w.heap.size, 0, none⟩ = some (B8 x) ∧ w'.cell? ⟨w.heap.size, 1, none⟩ = some (B8 t) ∧ w'.cell? ⟨w.heap.size + 1, 0, none⟩ = some (B8 y) ∧ w'.cell? ⟨w.heap.size + 1, 1, none⟩ = some (B8 s) ∧ w'.cell? ⟨w.heap.size + 1 + 1, 0, none⟩ = some (.bool c) ∧ w'.cell? ⟨w.heap.size + 1 + 1, 1, none⟩ = some (.bool ct) ∧ w'.cell? ⟨w.heap.size + 1 + 1 + 1, 0, none⟩ = some (.bool false) ∧ w'.cell? ⟨w.heap.size + 1 + 1 + 1, 1, none⟩ = some (.bool false) ∧ w'.cell? ⟨w.heap.size + 1 + 1 + 1 + 1, 0, none⟩ = some (.int .u8 0) ∧ w'.frozen? ⟨w.heap.size + 1 + 1 + 1 + 1, 0, none⟩ = false ∧ w'.cell? ⟨w.heap.size + 1 + 1 + 1 + 1, 1, none⟩ = some (.int .u8 0) ∧ w'.frozen? ⟨w.heap.size + 1 + 1 + 1 + 1, 1, none⟩ = false ∧ w'.cell? ⟨w.heap.size + 1 + 1 + 1 + 1, 2, none⟩ = some (.bool false) ∧ w'.frozen? ⟨w.heap.size + 1 + 1 + 1 + 1, 2, none⟩ = false ∧ w'.cell? ⟨w.heap.size + 1 + 1 + 1 + 1, 3, none⟩ = some (.bool false) ∧ w'.frozen? ⟨w.heap.size + 1 + 1 + 1 + 1, 3, none⟩ = false ∧ w'.cell? ⟨w.heap.size + 1 + 1 + 1 + 1, 4, none⟩ = some (.bool false) ∧ w'.frozen? ⟨w.heap.size + 1 + 1 + 1 + 1, 4, none⟩ = false ∧ w'.cell? ⟨w.heap.size + 1 + 1 + 1 + 1, 5, none⟩ = some (.bool false) ∧ w'.frozen? ⟨w.heap.size + 1 + 1 + 1 + 1, 5, none⟩ = false ∧ w'.cell? ⟨w.heap.size + 1 + 1 + 1 + 1, 6, none⟩ = some (.bool false) ∧ w'.frozen? ⟨w.heap.size + 1 + 1 + 1 + 1, 6, none⟩ = false ∧ w'.cell? ⟨w.heap.size + 1 + 1 + 1 + 1, 7, none⟩ = some (.bool false) ∧ w'.frozen? ⟨w.heap.size + 1 + 1 + 1 + 1, 7, none⟩ = false ∧ w'.cell? ⟨w.heap.size + 1 + 1 + 1 + 1, 8, none⟩ = some (.bool false) ∧ w'.frozen? ⟨w.heap.size + 1 + 1 + 1 + 1, 8, none⟩ = false ∧ w'.cell? ⟨w.heap.size + 1 + 1 + 1 + 1, 9, none⟩ = some (.bool false) ∧ w'.frozen? ⟨w.heap.size + 1 + 1 + 1 + 1, 9, none⟩ = false ∧ Below w.heap.size w w') (fun bv w' => w'.cell? ⟨bv, 0, none⟩ = some (.int .i64 0) ∧ w'.frozen? ⟨bv, 0, none⟩ = false ∧ w'.cell? ⟨bv, 1, none⟩ = some (.bool false) ∧ w'.frozen? ⟨bv, 1, none⟩ = false ∧ w'.cell? ⟨bv, 2, none⟩ = some (.bool false) ∧ w'.frozen? ⟨bv, 2, none⟩ = false ∧ w'.cell? ⟨bv, 3, none⟩ = some (.bool false) ∧ w'.frozen? ⟨bv, 3, none⟩ = false ∧ w'.cell? ⟨bv, 4, none⟩ = some (.bool false) ∧ w'.frozen? ⟨bv, 4, none⟩ = false ∧ w.heap.size ≤ bv ∧ w.heap.size < bv ∧ w.heap.size + 1 < bv ∧ w.heap.size + 1 + 1 < bv ∧ w.heap.size + 1 + 1 + 1 < bv ∧ w.heap.size + 1 + 1 + 1 + 1 < bv) (by kernel_rfl) (by kernel_rfl) (by kernel_rfl) (by kernel_rfl) (by kernel_rfl) ?_ (fun W w1 hSw hb => ⟨kc hb hSw.1, kc hb hSw.2.1, kc hb hSw.2.2.1, kc hb hSw.2.2.2.1, kc hb hSw.2.2.2.2.1, kc hb hSw.2.2.2.2.2.1, kc hb hSw.2.2.2.2.2.2.1, kc hb hSw.2.2.2.2.2.2.2.1, kc hb hSw.2.2.2.2.2.2.2.2.1, kfz hb (klt hSw.2.2.2.2.2.2.2.2.1) hSw.2.2.2.2.2.2.2.2.2.1, kc hb hSw.2.2.2.2.2.2.2.2.2.2.1, kfz hb (klt hSw.2.2.2.2.2.2.2.2.2.2.1) hSw.2.2.2.2.2.2.2.2.2.2.2.1, kc hb hSw.2.2.2.2.2.2.2.2.2.2.2.2.1, kfz hb (klt hSw.2.2.2.2.2.2.2.2.2.2.2.2.1) hSw.2.2.2.2.2.2.2.2.2.2.2.2.2.1, kc hb hSw.2.2.2.2.2.2.2.2.2.2.2.2.2.2.1, kfz hb (klt hSw.2.2.2.2.2.2.2.2.2.2.2.2.2.2.1) hSw.2.2.2.2.2.2.2.2.2.2.2.2.2.2.2.1, kc hb hSw.2.2.2.2.2.2.2.2.2.2.2.2.2.2.2.2.1, kfz hb (klt hSw.2.2.2.2.2.2.2.2.2.2.2.2.2.2.2.2.1) hSw.2.2.2.2.2.2.2.2.2.2.2.2.2.2.2.2.2.1, kc hb hSw.2.2.2.2.2.2.2.2.2.2.2.2.2.2.2.2.2.2.1, kfz hb (klt hSw.2.2.2.2.2.2.2.2.2.2.2.2.2.2.2.2.2.2.1) hSw.2.2.2.2.2.2.2.2.2.2.2.2.2.2.2.2.2.2.2.1, kc hb hSw.2.2.2.2.2.2.2.2.2.2.2.2.2.2.2.2.2.2.2.2.1, kfz hb (klt hSw.2.2.2.2.2.2.2.2.2.2.2.2.2.2.2.2.2.2.2.2.1) hSw.2.2.2.2.2.2.2.2.2.2.2.2.2.2.2.2.2.2.2.2.2.1, kc hb hSw.2.2.2.2.2.2.2.2.2.2.2.2.2.2.2.2.2.2.2.2.2.2.1, kfz hb (klt hSw.2.2.2.2.2.2.2.2.2.2.2.2.2.2.2.2.2.2.2.2.2.2.1) hSw.2.2.2.2.2.2.2.2.2.2.2.2.2.2.2.2.2.2.2.2.2.2.2.1, kc hb hSw.2.2.2.2.2.2.2.2.2.2.2.2.2.2.2.2.2.2.2.2.2.2.2.2.1, kfz hb (klt hSw.2.2.2.2.2.2.2.2.2.2.2.2.2.2.2.2.2.2.2.2.2.2.2.2.1) hSw.2.2.2.2.2.2.2.2.2.2.2.2.2.2.2.2.2.2.2.2.2.2.2.2.2.1, kc hb hSw.2.2.2.2.2.2.2.2.2.2.2.2.2.2.2.2.2.2.2.2.2.2.2.2.2.2.1, kfz hb (klt hSw.2.2.2.2.2.2.2.2.2.2.2.2.2.2.2.2.2.2.2.2.2.2.2.2.2.2.1) hSw.2.2.2.2.2.2.2.2.2.2.2.2.2.2.2.2.2.2.2.2.2.2.2.2.2.2.2.1, kb hSw.2.2.2.2.2.2.2.2.2.2.2.2.2.2.2.2.2.2.2.2.2.2.2.2.2.2.2.2 hb⟩) (fun bv W w1 hEw hb => ⟨kc hb hEw.1, kfz hb (klt hEw.1) hEw.2.1, kc hb hEw.2.2.1, kfz hb (klt hEw.2.2.1) hEw.2.2.2.1, kc hb hEw.2.2.2.2.1, kfz hb (klt hEw.2.2.2.2.1) hEw.2.2.2.2.2.1, kc hb hEw.2.2.2.2.2.2.1, kfz hb (klt hEw.2.2.2.2.2.2.1) hEw.2.2.2.2.2.2.2.1, kc hb hEw.2.2.2.2.2.2.2.2.1, kfz hb (klt hEw.2.2.2.2.2.2.2.2.1) hEw.2.2.2.2.2.2.2.2.2.1, hEw.2.2.2.2.2.2.2.2.2.2⟩) ?_ ?_ ?_
  · intro a W; show (execOp _ _).run _ _ = _; first | rfl | kernel_rfl
  · intro W hSw
    have hzW := (hSw.2.2.2.2.2.2.2.2.2.2.2.2.2.2.2.2.2.2.2.2.2.2.2.2.2.2.2.2).size
    have hkW0 := klt (hSw.1)
    have hkW2 := klt (hSw.2.2.1)
    have hkW4 := klt (hSw.2.2.2.2.1)
    have hkW6 := klt (hSw.2.2.2.2.2.2.1)
    have hkW8 := klt (hSw.2.2.2.2.2.2.2.2.1)
    refine ⟨?_, ?_, ?_, ?_, ?_, ?_, ?_, ?_, ?_, ?_, ?_, ?_, ?_, ?_, ?_, ?_⟩ <;> first | (go_simp; done) | omega | (dsimp only; omega)
  · (try dsimp only)
    refine ⟨?_, ?_, ?_, ?_, ?_, ?_, ?_, ?_, ?_, ?_, ?_, ?_, ?_, ?_, ?_, ?_, ?_, ?_, ?_, ?_, ?_, ?_, ?_, ?_, ?_, ?_, ?_, ?_, ?_⟩ <;> first | (go_simp; done) | (simp [*]; done) | go_grown
  (try simp only [List.append_eq, List.cons_append, List.nil_append, List.toList_toArray, List.take_succ_cons, List.take_zero, List.drop_succ_cons, List.drop_zero])
  repeat (first
    | (refine PlanA.skip (by decide) ?_)
    | (refine PlanA.val (v := ?_) (by decide) ?_ ?_ ?_; rotate_left; (· rfl); (· (intro W hSw; (try dsimp only at hSw); go_simp; all_goals (first | (with_reducible rfl) | (constructor <;> (with_reducible rfl))))); (try simp only [Act.put, List.setIfInBounds_toArray, List.set_cons_zero, List.set_cons_succ]))
    | (refine PlanA.no (by decide) ?_ ?_; (· rfl); (try simp only [Act.put, List.setIfInBounds_toArray, List.set_cons_zero, List.set_cons_succ]))
    | (refine PlanA.call (v := ?_) (f := ?_) (args := ?_) (by decide) ?_ ?_ ?_ ?_; rotate_left 3; (· rfl); (· (intro W hSw; (try dsimp only at hSw); go_simp; all_goals (first | (with_reducible rfl) | (constructor <;> (with_reducible rfl))))); (· (intro W hSw; (try dsimp only at hSw); first | (go_at_call 33; ((with_reducible refine (one_b _ _).mono ?_); rintro _ wz ⟨rfl, hb⟩; (refine ⟨?_, hb⟩; with_reducible rfl))) | (go_at_call 32; ((with_reducible refine (binary_r _ _ _ _).mono ?_); rintro _ wz ⟨rfl, hb⟩; (refine ⟨?_, hb⟩; with_reducible rfl))) | (go_at_call 34; ((with_reducible refine (decimal_r _ _ _ _).mono ?_); rintro _ wz ⟨rfl, hb⟩; (refine ⟨?_, hb⟩; with_reducible rfl))) | (go_at_call 38; ((with_reducible refine (less_r _ _ _ _).mono ?_); rintro _ wz ⟨rfl, hb⟩; (refine ⟨?_, hb⟩; with_reducible rfl))))); (try simp only [Act.put, List.setIfInBounds_toArray, List.set_cons_zero, List.set_cons_succ])))
  refine PlanA.done ?_
  intro bv w1 T E
  (try dsimp only at T E)
  (try simp only [Act.put, List.setIfInBounds_toArray, List.set_cons_zero, List.set_cons_succ])
  obtain ⟨ha_0, ha_1, hb_0, hb_1, hc_0, hc_1, hd_0, hd_1, hr_0, fr_0, hr_1, fr_1, hr_2, fr_2, hr_3, fr_3, hr_4, fr_4, hr_5, fr_5, hr_6, fr_6, hr_7, fr_7, hr_8, fr_8, hr_9, fr_9, hB⟩ := T
  obtain ⟨hv_0, fv_0, hv_1, fv_1, hv_2, fv_2, hv_3, fv_3, hv_4, fv_4, hg_bv, hq_bv_a, hq_bv_b, hq_bv_c, hq_bv_d, hq_bv_r⟩ := E
  have hr_bv_a : ¬ w.heap.size = bv := by omega
  have hs_bv_a : ¬ bv = w.heap.size := by omega
  have hr_bv_b : ¬ w.heap.size + 1 = bv := by omega
  have hs_bv_b : ¬ bv = w.heap.size + 1 := by omega
  have hr_bv_c : ¬ w.heap.size + 1 + 1 = bv := by omega
  have hs_bv_c : ¬ bv = w.heap.size + 1 + 1 := by omega
  have hr_bv_d : ¬ w.heap.size + 1 + 1 + 1 = bv := by omega
  have hs_bv_d : ¬ bv = w.heap.size + 1 + 1 + 1 := by omega
  have hr_bv_r : ¬ w.heap.size + 1 + 1 + 1 + 1 = bv := by omega
  have hs_bv_r : ¬ bv = w.heap.size + 1 + 1 + 1 + 1 := by omega
  have hsz := hB.size
  have hla := klt ha_0
  have hlb := klt hb_0
  have hlc := klt hc_0
  have hld := klt hd_0
  have hlr := klt hr_0
  have hlv := klt hv_0
  have hna0 : ¬ (w.heap.size = w1.heap.size) := by omega
  have hna1 : ¬ (w.heap.size = w1.heap.size + 1) := by omega
  have hka1 : w.heap.size < w1.heap.size + 1 := by omega
  have hna2 : ¬ (w.heap.size = w1.heap.size + 1 + 1) := by omega
  have hka2 : w.heap.size < w1.heap.size + 1 + 1 := by omega
  have hnb0 : ¬ (w.heap.size + 1 = w1.heap.size) := by omega
  have hkb1 : w.heap.size < w1.heap.size := by omega
  have hnc0 : ¬ (w.heap.size + 1 + 1 = w1.heap.size) := by omega
  have hkc1 : w.heap.size + 1 < w1.heap.size := by omega
  have hnd0 : ¬ (w.heap.size + 1 + 1 + 1 = w1.heap.size) := by omega
  have hkd1 : w.heap.size + 1 + 1 < w1.heap.size := by omega
  have hnr0 : ¬ (w.heap.size + 1 + 1 + 1 + 1 = w1.heap.size) := by omega
  have hkr1 : w.heap.size + 1 + 1 + 1 < w1.heap.size := by omega
  have hnv0 : ¬ (bv = w1.heap.size) := by omega
  have hnv1 : ¬ (bv = w1.heap.size + 1) := by omega
  have hkv1 : bv < w1.heap.size + 1 := by omega
  have hnv2 : ¬ (bv = w1.heap.size + 1 + 1) := by omega
  have hkv2 : bv < w1.heap.size + 1 + 1 := by omega
  go_wp2_with fail
  ((with_reducible refine (secret_r _ _ _ _ _ _ _).mono ?_); rintro _ w3 ⟨rfl, hb⟩)
  have T : w3.cell? ⟨w.heap.size + 1 + 1 + 1, 0, none⟩ = some (.bool false) ∧ w3.cell? ⟨w.heap.size + 1 + 1 + 1, 1, none⟩ = some (.bool false) ∧ w3.cell? ⟨w.heap.size + 1 + 1 + 1 + 1, 0, none⟩ = some (.int .u8 0) ∧ w3.frozen? ⟨w.heap.size + 1 + 1 + 1 + 1, 0, none⟩ = false ∧ w3.cell? ⟨w.heap.size + 1 + 1 + 1 + 1, 1, none⟩ = some (.int .u8 0) ∧ w3.frozen? ⟨w.heap.size + 1 + 1 + 1 + 1, 1, none⟩ = false ∧ w3.cell? ⟨w.heap.size + 1 + 1 + 1 + 1, 2, none⟩ = some (.bool false) ∧ w3.frozen? ⟨w.heap.size + 1 + 1 + 1 + 1, 2, none⟩ = false ∧ w3.cell? ⟨w.heap.size + 1 + 1 + 1 + 1, 3, none⟩ = some (.bool false) ∧ w3.frozen? ⟨w.heap.size + 1 + 1 + 1 + 1, 3, none⟩ = false ∧ w3.cell? ⟨w.heap.size + 1 + 1 + 1 + 1, 4, none⟩ = some (.bool false) ∧ w3.frozen? ⟨w.heap.size + 1 + 1 + 1 + 1, 4, none⟩ = false ∧ w3.cell? ⟨w.heap.size + 1 + 1 + 1 + 1, 5, none⟩ = some (.bool false) ∧ w3.frozen? ⟨w.heap.size + 1 + 1 + 1 + 1, 5, none⟩ = false ∧ w3.cell? ⟨w.heap.size + 1 + 1 + 1 + 1, 6, none⟩ = some (.bool false) ∧ w3.frozen? ⟨w.heap.size + 1 + 1 + 1 + 1, 6, none⟩ = false ∧ w3.cell? ⟨w.heap.size + 1 + 1 + 1 + 1, 7, none⟩ = some (.bool false) ∧ w3.frozen? ⟨w.heap.size + 1 + 1 + 1 + 1, 7, none⟩ = false ∧ w3.cell? ⟨w.heap.size + 1 + 1 + 1 + 1, 8, none⟩ = some (.bool false) ∧ w3.frozen? ⟨w.heap.size + 1 + 1 + 1 + 1, 8, none⟩ = false ∧ w3.cell? ⟨w.heap.size + 1 + 1 + 1 + 1, 9, none⟩ = some (.bool false) ∧ w3.frozen? ⟨w.heap.size + 1 + 1 + 1 + 1, 9, none⟩ = false ∧ w3.cell? ⟨bv, 0, none⟩ = some (.int .i64 (u8 (addV x (~~~y) c).a)) ∧ w3.frozen? ⟨bv, 0, none⟩ = false ∧ w3.cell? ⟨bv, 1, none⟩ = some (.bool (addV x (~~~y) c).n) ∧ w3.frozen? ⟨bv, 1, none⟩ = false ∧ w3.cell? ⟨bv, 2, none⟩ = some (.bool (addV x (~~~y) c).v) ∧ w3.frozen? ⟨bv, 2, none⟩ = false ∧ w3.cell? ⟨bv, 3, none⟩ = some (.bool (addV x (~~~y) c).z) ∧ w3.frozen? ⟨bv, 3, none⟩ = false ∧ w3.cell? ⟨bv, 4, none⟩ = some (.bool (addV x (~~~y) c).c) ∧ w3.frozen? ⟨bv, 4, none⟩ = false := by
      refine ⟨?_, ?_, ?_, ?_, ?_, ?_, ?_, ?_, ?_, ?_, ?_, ?_, ?_, ?_, ?_, ?_, ?_, ?_, ?_, ?_, ?_, ?_, ?_, ?_, ?_, ?_, ?_, ?_, ?_, ?_, ?_, ?_⟩ <;> first | (refine kc hb ?_ <;> (go_simp; first | done | rfl)) | (refine kfz hb ?_ ?_ <;> first | (go_size; done) | (go_simp; done))
  have hz := hb.size
  (try simp only [World.size_alloc, World.size_setCell, World.size_drew] at hz)
  have hld' : w.heap.size + 1 + 1 + 1 < w3.heap.size := by omega
  have hlr' : w.heap.size + 1 + 1 + 1 + 1 < w3.heap.size := by omega
  have hlv1' : bv < w3.heap.size := by omega
  have hB' : Below w.heap.size w w3 := by
      refine kb ?_ hb
      go_grown
  clear ha_0 ha_1 hb_0 hb_1 hc_0 hc_1 hd_0 hd_1 hr_0 fr_0 hr_1 fr_1 hr_2 fr_2 hr_3 fr_3 hr_4 fr_4 hr_5 fr_5 hr_6 fr_6 hr_7 fr_7 hr_8 fr_8 hr_9 fr_9 hv_0 fv_0 hv_1 fv_1 hv_2 fv_2 hv_3 fv_3 hv_4 fv_4 hB hsz hla hlb hlc hld hlr hlv hna0 hna1 hka1 hna2 hka2 hnb0 hkb1 hnc0 hkc1 hnd0 hkd1 hnr0 hkr1 hnv0 hnv1 hkv1 hnv2 hkv2
  clear hb hz
  obtain ⟨hd_0, hd_1, hr_0, fr_0, hr_1, fr_1, hr_2, fr_2, hr_3, fr_3, hr_4, fr_4, hr_5, fr_5, hr_6, fr_6, hr_7, fr_7, hr_8, fr_8, hr_9, fr_9, hv1_0, fv1_0, hv1_1, fv1_1, hv1_2, fv1_2, hv1_3, fv1_3, hv1_4, fv1_4⟩ := T
  have hld := hld'; clear hld'
  have hlr := hlr'; clear hlr'
  have hlv1 := hlv1'; clear hlv1'
  have hnd0 : ¬ (w.heap.size + 1 + 1 + 1 = w3.heap.size) := by omega
  have hnd1 : ¬ (w.heap.size + 1 + 1 = w3.heap.size) := by omega
  have hkd1 : w.heap.size + 1 + 1 < w3.heap.size := by omega
  have hnd2 : ¬ (w.heap.size + 1 = w3.heap.size) := by omega
  have hkd2 : w.heap.size + 1 < w3.heap.size := by omega
  have hnr0 : ¬ (w.heap.size + 1 + 1 + 1 + 1 = w3.heap.size) := by omega
  have hkr1 : w.heap.size + 1 + 1 + 1 < w3.heap.size := by omega
  have hnv10 : ¬ (bv = w3.heap.size) := by omega
  have hnv11 : ¬ (bv = w3.heap.size + 1) := by omega
  have hkv11 : bv < w3.heap.size + 1 := by omega
  have hnv12 : ¬ (bv = w3.heap.size + 1 + 1) := by omega
  have hkv12 : bv < w3.heap.size + 1 + 1 := by omega
  have hB := hB'; clear hB'
  have hsz := hB.size
  go_wp2_with fail
  ((with_reducible refine (told_q (addV x (~~~y) c) (secT t s ct) false false false rfl (u8 (secT t s ct)) rfl _).mono ?_); rintro _ w4 ⟨rfl, hb⟩)
  have T : w4.cell? ⟨w.heap.size + 1 + 1 + 1 + 1, 0, none⟩ = some (.int .u8 0) ∧ w4.frozen? ⟨w.heap.size + 1 + 1 + 1 + 1, 0, none⟩ = false ∧ w4.cell? ⟨w.heap.size + 1 + 1 + 1 + 1, 1, none⟩ = some (.int .u8 0) ∧ w4.frozen? ⟨w.heap.size + 1 + 1 + 1 + 1, 1, none⟩ = false ∧ w4.cell? ⟨w.heap.size + 1 + 1 + 1 + 1, 2, none⟩ = some (.bool false) ∧ w4.frozen? ⟨w.heap.size + 1 + 1 + 1 + 1, 2, none⟩ = false ∧ w4.cell? ⟨w.heap.size + 1 + 1 + 1 + 1, 3, none⟩ = some (.bool false) ∧ w4.frozen? ⟨w.heap.size + 1 + 1 + 1 + 1, 3, none⟩ = false ∧ w4.cell? ⟨w.heap.size + 1 + 1 + 1 + 1, 4, none⟩ = some (.bool false) ∧ w4.frozen? ⟨w.heap.size + 1 + 1 + 1 + 1, 4, none⟩ = false ∧ w4.cell? ⟨w.heap.size + 1 + 1 + 1 + 1, 5, none⟩ = some (.bool false) ∧ w4.frozen? ⟨w.heap.size + 1 + 1 + 1 + 1, 5, none⟩ = false ∧ w4.cell? ⟨w.heap.size + 1 + 1 + 1 + 1, 6, none⟩ = some (.bool false) ∧ w4.frozen? ⟨w.heap.size + 1 + 1 + 1 + 1, 6, none⟩ = false ∧ w4.cell? ⟨w.heap.size + 1 + 1 + 1 + 1, 7, none⟩ = some (.bool false) ∧ w4.frozen? ⟨w.heap.size + 1 + 1 + 1 + 1, 7, none⟩ = false ∧ w4.cell? ⟨w.heap.size + 1 + 1 + 1 + 1, 8, none⟩ = some (.bool false) ∧ w4.frozen? ⟨w.heap.size + 1 + 1 + 1 + 1, 8, none⟩ = false ∧ w4.cell? ⟨w.heap.size + 1 + 1 + 1 + 1, 9, none⟩ = some (.bool false) ∧ w4.frozen? ⟨w.heap.size + 1 + 1 + 1 + 1, 9, none⟩ = false := by
      refine ⟨?_, ?_, ?_, ?_, ?_, ?_, ?_, ?_, ?_, ?_, ?_, ?_, ?_, ?_, ?_, ?_, ?_, ?_, ?_, ?_⟩ <;> first | (refine kc hb ?_ <;> (go_simp; first | done | rfl)) | (refine kfz hb ?_ ?_ <;> first | (go_size; done) | (go_simp; done))
  have hz := hb.size
  (try simp only [World.size_alloc, World.size_setCell, World.size_drew] at hz)
  have hlr' : w.heap.size + 1 + 1 + 1 + 1 < w4.heap.size := by omega
  have hB' : Below w.heap.size w w4 := by
      refine kb ?_ hb
      go_grown
  clear hd_0 hd_1 hr_0 fr_0 hr_1 fr_1 hr_2 fr_2 hr_3 fr_3 hr_4 fr_4 hr_5 fr_5 hr_6 fr_6 hr_7 fr_7 hr_8 fr_8 hr_9 fr_9 hv1_0 fv1_0 hv1_1 fv1_1 hv1_2 fv1_2 hv1_3 fv1_3 hv1_4 fv1_4 hld hlr hlv1 hnd0 hnd1 hkd1 hnd2 hkd2 hnr0 hkr1 hnv10 hnv11 hkv11 hnv12 hkv12 hB hsz
  clear hb hz
  obtain ⟨hr_0, fr_0, hr_1, fr_1, hr_2, fr_2, hr_3, fr_3, hr_4, fr_4, hr_5, fr_5, hr_6, fr_6, hr_7, fr_7, hr_8, fr_8, hr_9, fr_9⟩ := T
  have hlr := hlr'; clear hlr'
  have hnr0 : ¬ (w.heap.size + 1 + 1 + 1 + 1 = w4.heap.size) := by omega
  have hnr1 : ¬ (w.heap.size + 1 + 1 + 1 = w4.heap.size) := by omega
  have hkr1 : w.heap.size + 1 + 1 + 1 < w4.heap.size := by omega
  have hnr2 : ¬ (w.heap.size + 1 + 1 = w4.heap.size) := by omega
  have hkr2 : w.heap.size + 1 + 1 < w4.heap.size := by omega
  have hB := hB'; clear hB'
  have hsz := hB.size
  go_wp2
  refine bodyPost_ret (v := VS (addV x (~~~y) c) (hidT (secT t s ct) (addV x (~~~y) c).a false false)) (by simp [results, Try.results16, go_sem, hr_0, hr_1, hr_2, hr_3, hr_4, hr_5, hr_6, hr_7, hr_8, hr_9] <;> first | done | rfl | exact dec_eq Iff.rfl) rfl ⟨rfl, by go_grown⟩

set_option maxRecDepth 100000 in
set_option maxHeartbeats 2000000 in
theorem rSub_false_true (x t y s : BitVec 8) (c ct : Bool) (w : World) : Calls Try.prog 16 #[TB x t, TB y s, TBit c ct, TBit false true] w fun e w' =>
    e = .returned (VS (addV x (~~~y) c) (hidT (secT t s ct) (addV x (~~~y) c).a false true)) ∧ Below w.heap.size w w' := by
  have k1 := i64_u8
  have k2 := u8_com y
  have k3 := sec_one
  go_enter Try.func16, Try.ntmps16
  go_wp2_with fail
  refine wp_region_planA 12 11 9 #[.int .i64 0, .bool false, .bool false, .bool false, .bool false] 57 (fun w' => w'.cell? ⟨w.heap.size, 0, none⟩ = some (B8 x) ∧ w'.cell? ⟨w.heap.size, 1, none⟩ = some (B8 t) ∧ w'.cell? ⟨w.heap.size + 1, 0, none⟩ = some (B8 y) ∧ w'.cell? ⟨w.heap.size + 1, 1, none⟩ = some (B8 s) ∧ w'.cell? ⟨w.heap.size + 1 + 1, 0, none⟩ = some (.bool c) ∧ w'.cell? ⟨w.heap.size + 1 + 1, 1, none⟩ = some (.bool ct) ∧ w'.cell? ⟨w.heap.size + 1 + 1 + 1, 0, none⟩ = some (.bool false) ∧ w'.cell? ⟨w.heap.size + 1 + 1 + 1, 1, none⟩ = some (.bool true) ∧ w'.cell? ⟨w.heap.size + 1 + 1 + 1 + 1, 0, none⟩ = some (.int .u8 0) ∧ w'.frozen? ⟨w.heap.size + 1 + 1 + 1 + 1, 0, none⟩ = false ∧ w'.cell? ⟨w.heap.size + 1 + 1 + 1 + 1, 1, none⟩ = some (.int .u8 0) ∧ w'.frozen? ⟨w.heap.size + 1 + 1 + 1 + 1, 1, none⟩ = false ∧ w'.cell? ⟨w.heap.size + 1 + 1 + 1 + 1, 2, none⟩ = some (.bool false) ∧ w'.frozen? ⟨w.heap.size + 1 + 1 + 1 + 1, 2, none⟩ = false ∧ w'.cell? ⟨w.heap.size + 1 + 1 + 1 + 1, 3, none⟩ = some (.bool false) ∧ w'.frozen? ⟨w.heap.size + 1 + 1 + 1 + 1, 3, none⟩ = false ∧ w'.cell? ⟨w.heap.size + 1 + 1 + 1 + 1, 4, none⟩ = some (.bool false) ∧ w'.frozen? ⟨w.heap.size + 1 + 1 + 1 + 1, 4, none⟩ = false ∧ w'.cell? ⟨w.heap.size + 1 + 1 + 1 + 1, 5, none⟩ = some (.bool false) ∧ w'.frozen? ⟨w.heap.size + 1 + 1 + 1 + 1, 5, none⟩ = false ∧ w'.cell? ⟨w.heap.size + 1 + 1 + 1 + 1, 6, none⟩ = some (.bool false) ∧ w'.frozen? ⟨w.heap.size + 1 + 1 + 1 + 1, 6, none⟩ = false ∧ w'.cell? ⟨w.heap.size + 1 + 1 + 1 + 1, 7, none⟩ = some (.bool false) ∧ w'.frozen? ⟨w.heap.size + 1 + 1 + 1 + 1, 7, none⟩ = false ∧ w'.cell? ⟨w.heap.size + 1 + 1 + 1 + 1, 8, none⟩ = some (.bool false) ∧ w'.frozen? ⟨w.heap.size + 1 + 1 + 1 + 1, 8, none⟩ = false ∧ w'.cell? ⟨w.heap.size + 1 + 1 + 1 + 1, 9, none⟩ = some (.bool false) ∧ w'.frozen? ⟨w.heap.size + 1 + 1 + 1 + 1, 9, none⟩ = false ∧ Below w.heap.size w w') (fun bv w' => w'.cell? ⟨bv, 0, none⟩ = some (.int .i64 0) ∧ w'.frozen? ⟨bv, 0, none⟩ = false ∧ w'.cell? ⟨bv, 1, none⟩ = some (.bool false) ∧ w'.frozen? ⟨bv, 1, none⟩ = false ∧ w'.cell? ⟨bv, 2, none⟩ = some (.bool false) ∧ w'.frozen? ⟨bv, 2, none⟩ = false ∧ w'.cell? ⟨bv, 3, none⟩ = some (.bool false) ∧ w'.frozen? ⟨bv, 3, none⟩ = false ∧ w'.cell? ⟨bv, 4, none⟩ = some (.bool false) ∧ w'.frozen? ⟨bv, 4, none⟩ = false ∧ w.heap.size ≤ bv ∧ w.heap.size < bv ∧ w.heap.size + 1 < bv ∧ w.heap.size + 1 + 1 < bv ∧ w.heap.size + 1 + 1 + 1 < bv ∧ w.heap.size + 1 + 1 + 1 + 1 < bv) (by kernel_rfl) (by kernel_rfl) (by kernel_rfl) (by kernel_rfl) (by kernel_rfl) ?_ (fun W w1 hSw hb => ⟨kc hb hSw.1, kc hb hSw.2.1, kc hb hSw.2.2.1, kc hb hSw.2.2.2.1, kc hb hSw.2.2.2.2.1, kc hb hSw.2.2.2.2.2.1, kc hb hSw.2.2.2.2.2.2.1, kc hb hSw.2.2.2.2.2.2.2.1, kc hb hSw.2.2.2.2.2.2.2.2.1, kfz hb (klt hSw.2.2.2.2.2.2.2.2.1) hSw.2.2.2.2.2.2.2.2.2.1, kc hb hSw.2.2.2.2.2.2.2.2.2.2.1, kfz hb (klt hSw.2.2.2.2.2.2.2.2.2.2.1) hSw.2.2.2.2.2.2.2.2.2.2.2.1, kc hb hSw.2.2.2.2.2.2.2.2.2.2.2.2.1, kfz hb (klt hSw.2.2.2.2.2.2.2.2.2.2.2.2.1) hSw.2.2.2.2.2.2.2.2.2.2.2.2.2.1, kc hb hSw.2.2.2.2.2.2.2.2.2.2.2.2.2.2.1, kfz hb (klt hSw.2.2.2.2.2.2.2.2.2.2.2.2.2.2.1) hSw.2.2.2.2.2.2.2.2.2.2.2.2.2.2.2.1, kc hb hSw.2.2.2.2.2.2.2.2.2.2.2.2.2.2.2.2.1, kfz hb (klt hSw.2.2.2.2.2.2.2.2.2.2.2.2.2.2.2.2.1) hSw.2.2.2.2.2.2.2.2.2.2.2.2.2.2.2.2.2.1, kc hb hSw.2.2.2.2.2.2.2.2.2.2.2.2.2.2.2.2.2.2.1, kfz hb (klt hSw.2.2.2.2.2.2.2.2.2.2.2.2.2.2.2.2.2.2.1) hSw.2.2.2.2.2.2.2.2.2.2.2.2.2.2.2.2.2.2.2.1, kc hb hSw.2.2.2.2.2.2.2.2.2.2.2.2.2.2.2.2.2.2.2.2.1, kfz hb (klt hSw.2.2.2.2.2.2.2.2.2.2.2.2.2.2.2.2.2.2.2.2.1) hSw.2.2.2.2.2.2.2.2.2.2.2.2.2.2.2.2.2.2.2.2.2.1, kc hb hSw.2.2.2.2.2.2.2.2.2.2.2.2.2.2.2.2.2.2.2.2.2.2.1, kfz hb (klt hSw.2.2.2.2.2.2.2.2.2.2.2.2.2.2.2.2.2.2.2.2.2.2.1) hSw.2.2.2.2.2.2.2.2.2.2.2.2.2.2.2.2.2.2.2.2.2.2.2.1, kc hb hSw.2.2.2.2.2.2.2.2.2.2.2.2.2.2.2.2.2.2.2.2.2.2.2.2.1, kfz hb (klt hSw.2.2.2.2.2.2.2.2.2.2.2.2.2.2.2.2.2.2.2.2.2.2.2.2.1) hSw.2.2.2.2.2.2.2.2.2.2.2.2.2.2.2.2.2.2.2.2.2.2.2.2.2.1, kc hb hSw.2.2.2.2.2.2.2.2.2.2.2.2.2.2.2.2.2.2.2.2.2.2.2.2.2.2.1, kfz hb (klt hSw.2.2.2.2.2.2.2.2.2.2.2.2.2.2.2.2.2.2.2.2.2.2.2.2.2.2.1) hSw.2.2.2.2.2.2.2.2.2.2.2.2.2.2.2.2.2.2.2.2.2.2.2.2.2.2.2.1, kb hSw.2.2.2.2.2.2.2.2.2.2.2.2.2.2.2.2.2.2.2.2.2.2.2.2.2.2.2.2 hb⟩) (fun bv W w1 hEw hb => ⟨kc hb hEw.1, kfz hb (klt hEw.1) hEw.2.1, kc hb hEw.2.2.1, kfz hb (klt hEw.2.2.1) hEw.2.2.2.1, kc hb hEw.2.2.2.2.1, kfz hb (klt hEw.2.2.2.2.1) hEw.2.2.2.2.2.1, kc hb hEw.2.2.2.2.2.2.1, kfz hb (klt hEw.2.2.2.2.2.2.1) hEw.2.2.2.2.2.2.2.1, kc hb hEw.2.2.2.2.2.2.2.2.1, kfz hb (klt hEw.2.2.2.2.2.2.2.2.1) hEw.2.2.2.2.2.2.2.2.2.1, hEw.2.2.2.2.2.2.2.2.2.2⟩) ?_ ?_ ?_
  · intro a W; show (execOp _ _).run _ _ = _; first | rfl | kernel_rfl
  · intro W hSw
    have hzW := (hSw.2.2.2.2.2.2.2.2.2.2.2.2.2.2.2.2.2.2.2.2.2.2.2.2.2.2.2.2).size
    have hkW0 := klt (hSw.1)
    have hkW2 := klt (hSw.2.2.1)
    have hkW4 := klt (hSw.2.2.2.2.1)
    have hkW6 := klt (hSw.2.2.2.2.2.2.1)
    have hkW8 := klt (hSw.2.2.2.2.2.2.2.2.1)
    refine ⟨?_, ?_, ?_, ?_, ?_, ?_, ?_, ?_, ?_, ?_, ?_, ?_, ?_, ?_, ?_, ?_⟩ <;> first | (go_simp; done) | omega | (dsimp only; omega)
  · (try dsimp only)
    refine ⟨?_, ?_, ?_, ?_, ?_, ?_, ?_, ?_, ?_, ?_, ?_, ?_, ?_, ?_, ?_, ?_, ?_, ?_, ?_, ?_, ?_, ?_, ?_, ?_, ?_, ?_, ?_, ?_, ?_⟩ <;> first | (go_simp; done) | (simp [*]; done) | go_grown
  (try simp only [List.append_eq, List.cons_append, List.nil_append, List.toList_toArray, List.take_succ_cons, List.take_zero, List.drop_succ_cons, List.drop_zero])
  repeat (first
    | (refine PlanA.skip (by decide) ?_)
    | (refine PlanA.val (v := ?_) (by decide) ?_ ?_ ?_; rotate_left; (· rfl); (· (intro W hSw; (try dsimp only at hSw); go_simp; all_goals (first | (with_reducible rfl) | (constructor <;> (with_reducible rfl))))); (try simp only [Act.put, List.setIfInBounds_toArray, List.set_cons_zero, List.set_cons_succ]))
    | (refine PlanA.no (by decide) ?_ ?_; (· rfl); (try simp only [Act.put, List.setIfInBounds_toArray, List.set_cons_zero, List.set_cons_succ]))
    | (refine PlanA.call (v := ?_) (f := ?_) (args := ?_) (by decide) ?_ ?_ ?_ ?_; rotate_left 3; (· rfl); (· (intro W hSw; (try dsimp only at hSw); go_simp; all_goals (first | (with_reducible rfl) | (constructor <;> (with_reducible rfl))))); (· (intro W hSw; (try dsimp only at hSw); first | (go_at_call 33; ((with_reducible refine (one_b _ _).mono ?_); rintro _ wz ⟨rfl, hb⟩; (refine ⟨?_, hb⟩; with_reducible rfl))) | (go_at_call 32; ((with_reducible refine (binary_r _ _ _ _).mono ?_); rintro _ wz ⟨rfl, hb⟩; (refine ⟨?_, hb⟩; with_reducible rfl))) | (go_at_call 34; ((with_reducible refine (decimal_r _ _ _ _).mono ?_); rintro _ wz ⟨rfl, hb⟩; (refine ⟨?_, hb⟩; with_reducible rfl))) | (go_at_call 38; ((with_reducible refine (less_r _ _ _ _).mono ?_); rintro _ wz ⟨rfl, hb⟩; (refine ⟨?_, hb⟩; with_reducible rfl))))); (try simp only [Act.put, List.setIfInBounds_toArray, List.set_cons_zero, List.set_cons_succ])))
  refine PlanA.done ?_
  intro bv w1 T E
  (try dsimp only at T E)
  (try simp only [Act.put, List.setIfInBounds_toArray, List.set_cons_zero, List.set_cons_succ])
  obtain ⟨ha_0, ha_1, hb_0, hb_1, hc_0, hc_1, hd_0, hd_1, hr_0, fr_0, hr_1, fr_1, hr_2, fr_2, hr_3, fr_3, hr_4, fr_4, hr_5, fr_5, hr_6, fr_6, hr_7, fr_7, hr_8, fr_8, hr_9, fr_9, hB⟩ := T
  obtain ⟨hv_0, fv_0, hv_1, fv_1, hv_2, fv_2, hv_3, fv_3, hv_4, fv_4, hg_bv, hq_bv_a, hq_bv_b, hq_bv_c, hq_bv_d, hq_bv_r⟩ := E
  have hr_bv_a : ¬ w.heap.size = bv := by omega
  have hs_bv_a : ¬ bv = w.heap.size := by omega
  have hr_bv_b : ¬ w.heap.size + 1 = bv := by omega
  have hs_bv_b : ¬ bv = w.heap.size + 1 := by omega
  have hr_bv_c : ¬ w.heap.size + 1 + 1 = bv := by omega
  have hs_bv_c : ¬ bv = w.heap.size + 1 + 1 := by omega
  have hr_bv_d : ¬ w.heap.size + 1 + 1 + 1 = bv := by omega
  have hs_bv_d : ¬ bv = w.heap.size + 1 + 1 + 1 := by omega
  have hr_bv_r : ¬ w.heap.size + 1 + 1 + 1 + 1 = bv := by omega
  have hs_bv_r : ¬ bv = w.heap.size + 1 + 1 + 1 + 1 := by omega
  have hsz := hB.size
  have hla := klt ha_0
  have hlb := klt hb_0
  have hlc := klt hc_0
  have hld := klt hd_0
  have hlr := klt hr_0
  have hlv := klt hv_0
  have hna0 : ¬ (w.heap.size = w1.heap.size) := by omega
  have hna1 : ¬ (w.heap.size = w1.heap.size + 1) := by omega
  have hka1 : w.heap.size < w1.heap.size + 1 := by omega
  have hna2 : ¬ (w.heap.size = w1.heap.size + 1 + 1) := by omega
  have hka2 : w.heap.size < w1.heap.size + 1 + 1 := by omega
  have hnb0 : ¬ (w.heap.size + 1 = w1.heap.size) := by omega
  have hkb1 : w.heap.size < w1.heap.size := by omega
  have hnc0 : ¬ (w.heap.size + 1 + 1 = w1.heap.size) := by omega
  have hkc1 : w.heap.size + 1 < w1.heap.size := by omega
  have hnd0 : ¬ (w.heap.size + 1 + 1 + 1 = w1.heap.size) := by omega
  have hkd1 : w.heap.size + 1 + 1 < w1.heap.size := by omega
  have hnr0 : ¬ (w.heap.size + 1 + 1 + 1 + 1 = w1.heap.size) := by omega
  have hkr1 : w.heap.size + 1 + 1 + 1 < w1.heap.size := by omega
  have hnv0 : ¬ (bv = w1.heap.size) := by omega
  have hnv1 : ¬ (bv = w1.heap.size + 1) := by omega
  have hkv1 : bv < w1.heap.size + 1 := by omega
  have hnv2 : ¬ (bv = w1.heap.size + 1 + 1) := by omega
  have hkv2 : bv < w1.heap.size + 1 + 1 := by omega
  go_wp2_with fail
  ((with_reducible refine (secret_r _ _ _ _ _ _ _).mono ?_); rintro _ w3 ⟨rfl, hb⟩)
  have T : w3.cell? ⟨w.heap.size + 1 + 1 + 1, 0, none⟩ = some (.bool false) ∧ w3.cell? ⟨w.heap.size + 1 + 1 + 1, 1, none⟩ = some (.bool true) ∧ w3.cell? ⟨w.heap.size + 1 + 1 + 1 + 1, 0, none⟩ = some (.int .u8 0) ∧ w3.frozen? ⟨w.heap.size + 1 + 1 + 1 + 1, 0, none⟩ = false ∧ w3.cell? ⟨w.heap.size + 1 + 1 + 1 + 1, 1, none⟩ = some (.int .u8 0) ∧ w3.frozen? ⟨w.heap.size + 1 + 1 + 1 + 1, 1, none⟩ = false ∧ w3.cell? ⟨w.heap.size + 1 + 1 + 1 + 1, 2, none⟩ = some (.bool false) ∧ w3.frozen? ⟨w.heap.size + 1 + 1 + 1 + 1, 2, none⟩ = false ∧ w3.cell? ⟨w.heap.size + 1 + 1 + 1 + 1, 3, none⟩ = some (.bool false) ∧ w3.frozen? ⟨w.heap.size + 1 + 1 + 1 + 1, 3, none⟩ = false ∧ w3.cell? ⟨w.heap.size + 1 + 1 + 1 + 1, 4, none⟩ = some (.bool false) ∧ w3.frozen? ⟨w.heap.size + 1 + 1 + 1 + 1, 4, none⟩ = false ∧ w3.cell? ⟨w.heap.size + 1 + 1 + 1 + 1, 5, none⟩ = some (.bool false) ∧ w3.frozen? ⟨w.heap.size + 1 + 1 + 1 + 1, 5, none⟩ = false ∧ w3.cell? ⟨w.heap.size + 1 + 1 + 1 + 1, 6, none⟩ = some (.bool false) ∧ w3.frozen? ⟨w.heap.size + 1 + 1 + 1 + 1, 6, none⟩ = false ∧ w3.cell? ⟨w.heap.size + 1 + 1 + 1 + 1, 7, none⟩ = some (.bool false) ∧ w3.frozen? ⟨w.heap.size + 1 + 1 + 1 + 1, 7, none⟩ = false ∧ w3.cell? ⟨w.heap.size + 1 + 1 + 1 + 1, 8, none⟩ = some (.bool false) ∧ w3.frozen? ⟨w.heap.size + 1 + 1 + 1 + 1, 8, none⟩ = false ∧ w3.cell? ⟨w.heap.size + 1 + 1 + 1 + 1, 9, none⟩ = some (.bool false) ∧ w3.frozen? ⟨w.heap.size + 1 + 1 + 1 + 1, 9, none⟩ = false ∧ w3.cell? ⟨bv, 0, none⟩ = some (.int .i64 (u8 (addV x (~~~y) c).a)) ∧ w3.frozen? ⟨bv, 0, none⟩ = false ∧ w3.cell? ⟨bv, 1, none⟩ = some (.bool (addV x (~~~y) c).n) ∧ w3.frozen? ⟨bv, 1, none⟩ = false ∧ w3.cell? ⟨bv, 2, none⟩ = some (.bool (addV x (~~~y) c).v) ∧ w3.frozen? ⟨bv, 2, none⟩ = false ∧ w3.cell? ⟨bv, 3, none⟩ = some (.bool (addV x (~~~y) c).z) ∧ w3.frozen? ⟨bv, 3, none⟩ = false ∧ w3.cell? ⟨bv, 4, none⟩ = some (.bool (addV x (~~~y) c).c) ∧ w3.frozen? ⟨bv, 4, none⟩ = false := by
      refine ⟨?_, ?_, ?_, ?_, ?_, ?_, ?_, ?_, ?_, ?_, ?_, ?_, ?_, ?_, ?_, ?_, ?_, ?_, ?_, ?_, ?_, ?_, ?_, ?_, ?_, ?_, ?_, ?_, ?_, ?_, ?_, ?_⟩ <;> first | (refine kc hb ?_ <;> (go_simp; first | done | rfl)) | (refine kfz hb ?_ ?_ <;> first | (go_size; done) | (go_simp; done))
  have hz := hb.size
  (try simp only [World.size_alloc, World.size_setCell, World.size_drew] at hz)
  have hld' : w.heap.size + 1 + 1 + 1 < w3.heap.size := by omega
  have hlr' : w.heap.size + 1 + 1 + 1 + 1 < w3.heap.size := by omega
  have hlv1' : bv < w3.heap.size := by omega
  have hB' : Below w.heap.size w w3 := by
      refine kb ?_ hb
      go_grown
  clear ha_0 ha_1 hb_0 hb_1 hc_0 hc_1 hd_0 hd_1 hr_0 fr_0 hr_1 fr_1 hr_2 fr_2 hr_3 fr_3 hr_4 fr_4 hr_5 fr_5 hr_6 fr_6 hr_7 fr_7 hr_8 fr_8 hr_9 fr_9 hv_0 fv_0 hv_1 fv_1 hv_2 fv_2 hv_3 fv_3 hv_4 fv_4 hB hsz hla hlb hlc hld hlr hlv hna0 hna1 hka1 hna2 hka2 hnb0 hkb1 hnc0 hkc1 hnd0 hkd1 hnr0 hkr1 hnv0 hnv1 hkv1 hnv2 hkv2
  clear hb hz
  obtain ⟨hd_0, hd_1, hr_0, fr_0, hr_1, fr_1, hr_2, fr_2, hr_3, fr_3, hr_4, fr_4, hr_5, fr_5, hr_6, fr_6, hr_7, fr_7, hr_8, fr_8, hr_9, fr_9, hv1_0, fv1_0, hv1_1, fv1_1, hv1_2, fv1_2, hv1_3, fv1_3, hv1_4, fv1_4⟩ := T
  have hld := hld'; clear hld'
  have hlr := hlr'; clear hlr'
  have hlv1 := hlv1'; clear hlv1'
  have hnd0 : ¬ (w.heap.size + 1 + 1 + 1 = w3.heap.size) := by omega
  have hnd1 : ¬ (w.heap.size + 1 + 1 = w3.heap.size) := by omega
  have hkd1 : w.heap.size + 1 + 1 < w3.heap.size := by omega
  have hnd2 : ¬ (w.heap.size + 1 = w3.heap.size) := by omega
  have hkd2 : w.heap.size + 1 < w3.heap.size := by omega
  have hnr0 : ¬ (w.heap.size + 1 + 1 + 1 + 1 = w3.heap.size) := by omega
  have hkr1 : w.heap.size + 1 + 1 + 1 < w3.heap.size := by omega
  have hnv10 : ¬ (bv = w3.heap.size) := by omega
  have hnv11 : ¬ (bv = w3.heap.size + 1) := by omega
  have hkv11 : bv < w3.heap.size + 1 := by omega
  have hnv12 : ¬ (bv = w3.heap.size + 1 + 1) := by omega
  have hkv12 : bv < w3.heap.size + 1 + 1 := by omega
  have hB := hB'; clear hB'
  have hsz := hB.size
  go_wp2_with fail
  ((with_reducible refine (told_q (addV x (~~~y) c) (secT t s ct) false true true rfl (u8 (secT t s ct ||| 1#8)) rfl _).mono ?_); rintro _ w4 ⟨rfl, hb⟩)
  have T : w4.cell? ⟨w.heap.size + 1 + 1 + 1 + 1, 0, none⟩ = some (.int .u8 0) ∧ w4.frozen? ⟨w.heap.size + 1 + 1 + 1 + 1, 0, none⟩ = false ∧ w4.cell? ⟨w.heap.size + 1 + 1 + 1 + 1, 1, none⟩ = some (.int .u8 0) ∧ w4.frozen? ⟨w.heap.size + 1 + 1 + 1 + 1, 1, none⟩ = false ∧ w4.cell? ⟨w.heap.size + 1 + 1 + 1 + 1, 2, none⟩ = some (.bool false) ∧ w4.frozen? ⟨w.heap.size + 1 + 1 + 1 + 1, 2, none⟩ = false ∧ w4.cell? ⟨w.heap.size + 1 + 1 + 1 + 1, 3, none⟩ = some (.bool false) ∧ w4.frozen? ⟨w.heap.size + 1 + 1 + 1 + 1, 3, none⟩ = false ∧ w4.cell? ⟨w.heap.size + 1 + 1 + 1 + 1, 4, none⟩ = some (.bool false) ∧ w4.frozen? ⟨w.heap.size + 1 + 1 + 1 + 1, 4, none⟩ = false ∧ w4.cell? ⟨w.heap.size + 1 + 1 + 1 + 1, 5, none⟩ = some (.bool false) ∧ w4.frozen? ⟨w.heap.size + 1 + 1 + 1 + 1, 5, none⟩ = false ∧ w4.cell? ⟨w.heap.size + 1 + 1 + 1 + 1, 6, none⟩ = some (.bool false) ∧ w4.frozen? ⟨w.heap.size + 1 + 1 + 1 + 1, 6, none⟩ = false ∧ w4.cell? ⟨w.heap.size + 1 + 1 + 1 + 1, 7, none⟩ = some (.bool false) ∧ w4.frozen? ⟨w.heap.size + 1 + 1 + 1 + 1, 7, none⟩ = false ∧ w4.cell? ⟨w.heap.size + 1 + 1 + 1 + 1, 8, none⟩ = some (.bool false) ∧ w4.frozen? ⟨w.heap.size + 1 + 1 + 1 + 1, 8, none⟩ = false ∧ w4.cell? ⟨w.heap.size + 1 + 1 + 1 + 1, 9, none⟩ = some (.bool false) ∧ w4.frozen? ⟨w.heap.size + 1 + 1 + 1 + 1, 9, none⟩ = false := by
      refine ⟨?_, ?_, ?_, ?_, ?_, ?_, ?_, ?_, ?_, ?_, ?_, ?_, ?_, ?_, ?_, ?_, ?_, ?_, ?_, ?_⟩ <;> first | (refine kc hb ?_ <;> (go_simp; first | done | rfl)) | (refine kfz hb ?_ ?_ <;> first | (go_size; done) | (go_simp; done))
  have hz := hb.size
  (try simp only [World.size_alloc, World.size_setCell, World.size_drew] at hz)
  have hlr' : w.heap.size + 1 + 1 + 1 + 1 < w4.heap.size := by omega
  have hB' : Below w.heap.size w w4 := by
      refine kb ?_ hb
      go_grown
  clear hd_0 hd_1 hr_0 fr_0 hr_1 fr_1 hr_2 fr_2 hr_3 fr_3 hr_4 fr_4 hr_5 fr_5 hr_6 fr_6 hr_7 fr_7 hr_8 fr_8 hr_9 fr_9 hv1_0 fv1_0 hv1_1 fv1_1 hv1_2 fv1_2 hv1_3 fv1_3 hv1_4 fv1_4 hld hlr hlv1 hnd0 hnd1 hkd1 hnd2 hkd2 hnr0 hkr1 hnv10 hnv11 hkv11 hnv12 hkv12 hB hsz
  clear hb hz
  obtain ⟨hr_0, fr_0, hr_1, fr_1, hr_2, fr_2, hr_3, fr_3, hr_4, fr_4, hr_5, fr_5, hr_6, fr_6, hr_7, fr_7, hr_8, fr_8, hr_9, fr_9⟩ := T
  have hlr := hlr'; clear hlr'
  have hnr0 : ¬ (w.heap.size + 1 + 1 + 1 + 1 = w4.heap.size) := by omega
  have hnr1 : ¬ (w.heap.size + 1 + 1 + 1 = w4.heap.size) := by omega
  have hkr1 : w.heap.size + 1 + 1 + 1 < w4.heap.size := by omega
  have hnr2 : ¬ (w.heap.size + 1 + 1 = w4.heap.size) := by omega
  have hkr2 : w.heap.size + 1 + 1 < w4.heap.size := by omega
  have hB := hB'; clear hB'
  have hsz := hB.size
  go_wp2
  refine bodyPost_ret (v := VS (addV x (~~~y) c) (hidT (secT t s ct) (addV x (~~~y) c).a false true)) (by simp [results, Try.results16, go_sem, hr_0, hr_1, hr_2, hr_3, hr_4, hr_5, hr_6, hr_7, hr_8, hr_9] <;> first | done | rfl | exact dec_eq Iff.rfl) rfl ⟨rfl, by go_grown⟩

set_option maxRecDepth 100000 in
set_option maxHeartbeats 2000000 in
theorem rSub_true_false (x t y s : BitVec 8) (c ct : Bool) (w : World) : Calls Try.prog 16 #[TB x t, TB y s, TBit c ct, TBit true false] w fun e w' =>
    e = .returned (VS (subD x y c) (hidT (secT t s ct) (subD x y c).a true false)) ∧ Below w.heap.size w w' := by
  have k1 := i64_u8
  have k2 := u8_com y
  have k3 := sec_one
  go_enter Try.func16, Try.ntmps16
  go_wp2_with fail
  refine wp_region_planA 12 11 9 #[.int .i64 0, .bool false, .bool false, .bool false, .bool false] 57 (fun w' => w'.cell? ⟨w.heap.size, 0, none⟩ = some (B8 x) ∧ w'.cell? ⟨w.heap.size, 1, none⟩ = some (B8 t) ∧ w'.cell? ⟨w.heap.size + 1, 0, none⟩ = some (B8 y) ∧ w'.cell? ⟨w.heap.size + 1, 1, none⟩ = some (B8 s) ∧ w'.cell? ⟨w.heap.size + 1 + 1, 0, none⟩ = some (.bool c) ∧ w'.cell? ⟨w.heap.size + 1 + 1, 1, none⟩ = some (.bool ct) ∧ w'.cell? ⟨w.heap.size + 1 + 1 + 1, 0, none⟩ = some (.bool true) ∧ w'.cell? ⟨w.heap.size + 1 + 1 + 1, 1, none⟩ = some (.bool false) ∧ w'.cell? ⟨w.heap.size + 1 + 1 + 1 + 1, 0, none⟩ = some (.int .u8 0) ∧ w'.frozen? ⟨w.heap.size + 1 + 1 + 1 + 1, 0, none⟩ = false ∧ w'.cell? ⟨w.heap.size + 1 + 1 + 1 + 1, 1, none⟩ = some (.int .u8 0) ∧ w'.frozen? ⟨w.heap.size + 1 + 1 + 1 + 1, 1, none⟩ = false ∧ w'.cell? ⟨w.heap.size + 1 + 1 + 1 + 1, 2, none⟩ = some (.bool false) ∧ w'.frozen? ⟨w.heap.size + 1 + 1 + 1 + 1, 2, none⟩ = false ∧ w'.cell? ⟨w.heap.size + 1 + 1 + 1 + 1, 3, none⟩ = some (.bool false) ∧ w'.frozen? ⟨w.heap.size + 1 + 1 + 1 + 1, 3, none⟩ = false ∧ w'.cell? ⟨w.heap.size + 1 + 1 + 1 + 1, 4, none⟩ = some (.bool false) ∧ w'.frozen? ⟨w.heap.size + 1 + 1 + 1 + 1, 4, none⟩ = false ∧ w'.cell? ⟨w.heap.size + 1 + 1 + 1 + 1, 5, none⟩ = some (.bool false) ∧ w'.frozen? ⟨w.heap.size + 1 + 1 + 1 + 1, 5, none⟩ = false ∧ w'.cell? ⟨w.heap.size + 1 + 1 + 1 + 1, 6, none⟩ = some (.bool false) ∧ w'.frozen? ⟨w.heap.size + 1 + 1 + 1 + 1, 6, none⟩ = false ∧ w'.cell? ⟨w.heap.size + 1 + 1 + 1 + 1, 7, none⟩ = some (.bool false) ∧ w'.frozen? ⟨w.heap.size + 1 + 1 + 1 + 1, 7, none⟩ = false ∧ w'.cell? ⟨w.heap.size + 1 + 1 + 1 + 1, 8, none⟩ = some (.bool false) ∧ w'.frozen? ⟨w.heap.size + 1 + 1 + 1 + 1, 8, none⟩ = false ∧ w'.cell? ⟨w.heap.size + 1 + 1 + 1 + 1, 9, none⟩ = some (.bool false) ∧ w'.frozen? ⟨w.heap.size + 1 + 1 + 1 + 1, 9, none⟩ = false ∧ Below w.heap.size w w') (fun bv w' => w'.cell? ⟨bv, 0, none⟩ = some (.int .i64 0) ∧ w'.frozen? ⟨bv, 0, none⟩ = false ∧ w'.cell? ⟨bv, 1, none⟩ = some (.bool false) ∧ w'.frozen? ⟨bv, 1, none⟩ = false ∧ w'.cell? ⟨bv, 2, none⟩ = some (.bool false) ∧ w'.frozen? ⟨bv, 2, none⟩ = false ∧ w'.cell? ⟨bv, 3, none⟩ = some (.bool false) ∧ w'.frozen? ⟨bv, 3, none⟩ = false ∧ w'.cell? ⟨bv, 4, none⟩ = some (.bool false) ∧ w'.frozen? ⟨bv, 4, none⟩ = false ∧ w.heap.size ≤ bv ∧ w.heap.size < bv ∧ w.heap.size + 1 < bv ∧ w.heap.size + 1 + 1 < bv ∧ w.heap.size + 1 + 1 + 1 < bv ∧ w.heap.size + 1 + 1 + 1 + 1 < bv) (by kernel_rfl) (by kernel_rfl) (by kernel_rfl) (by kernel_rfl) (by kernel_rfl) ?_ (fun W w1 hSw hb => ⟨kc hb hSw.1, kc hb hSw.2.1, kc hb hSw.2.2.1, kc hb hSw.2.2.2.1, kc hb hSw.2.2.2.2.1, kc hb hSw.2.2.2.2.2.1, kc hb hSw.2.2.2.2.2.2.1, kc hb hSw.2.2.2.2.2.2.2.1, kc hb hSw.2.2.2.2.2.2.2.2.1, kfz hb (klt hSw.2.2.2.2.2.2.2.2.1) hSw.2.2.2.2.2.2.2.2.2.1, kc hb hSw.2.2.2.2.2.2.2.2.2.2.1, kfz hb (klt hSw.2.2.2.2.2.2.2.2.2.2.1) hSw.2.2.2.2.2.2.2.2.2.2.2.1, kc hb hSw.2.2.2.2.2.2.2.2.2.2.2.2.1, kfz hb (klt hSw.2.2.2.2.2.2.2.2.2.2.2.2.1) hSw.2.2.2.2.2.2.2.2.2.2.2.2.2.1, kc hb hSw.2.2.2.2.2.2.2.2.2.2.2.2.2.2.1, kfz hb (klt hSw.2.2.2.2.2.2.2.2.2.2.2.2.2.2.1) hSw.2.2.2.2.2.2.2.2.2.2.2.2.2.2.2.1, kc hb hSw.2.2.2.2.2.2.2.2.2.2.2.2.2.2.2.2.1, kfz hb (klt hSw.2.2.2.2.2.2.2.2.2.2.2.2.2.2.2.2.1) hSw.2.2.2.2.2.2.2.2.2.2.2.2.2.2.2.2.2.1, kc hb hSw.2.2.2.2.2.2.2.2.2.2.2.2.2.2.2.2.2.2.1, kfz hb (klt hSw.2.2.2.2.2.2.2.2.2.2.2.2.2.2.2.2.2.2.1) hSw.2.2.2.2.2.2.2.2.2.2.2.2.2.2.2.2.2.2.2.1, kc hb hSw.2.2.2.2.2.2.2.2.2.2.2.2.2.2.2.2.2.2.2.2.1, kfz hb (klt hSw.2.2.2.2.2.2.2.2.2.2.2.2.2.2.2.2.2.2.2.2.1) hSw.2.2.2.2.2.2.2.2.2.2.2.2.2.2.2.2.2.2.2.2.2.1, kc hb hSw.2.2.2.2.2.2.2.2.2.2.2.2.2.2.2.2.2.2.2.2.2.2.1, kfz hb (klt hSw.2.2.2.2.2.2.2.2.2.2.2.2.2.2.2.2.2.2.2.2.2.2.1) hSw.2.2.2.2.2.2.2.2.2.2.2.2.2.2.2.2.2.2.2.2.2.2.2.1, kc hb hSw.2.2.2.2.2.2.2.2.2.2.2.2.2.2.2.2.2.2.2.2.2.2.2.2.1, kfz hb (klt hSw.2.2.2.2.2.2.2.2.2.2.2.2.2.2.2.2.2.2.2.2.2.2.2.2.1) hSw.2.2.2.2.2.2.2.2.2.2.2.2.2.2.2.2.2.2.2.2.2.2.2.2.2.1, kc hb hSw.2.2.2.2.2.2.2.2.2.2.2.2.2.2.2.2.2.2.2.2.2.2.2.2.2.2.1, kfz hb (klt hSw.2.2.2.2.2.2.2.2.2.2.2.2.2.2.2.2.2.2.2.2.2.2.2.2.2.2.1) hSw.2.2.2.2.2.2.2.2.2.2.2.2.2.2.2.2.2.2.2.2.2.2.2.2.2.2.2.1, kb hSw.2.2.2.2.2.2.2.2.2.2.2.2.2.2.2.2.2.2.2.2.2.2.2.2.2.2.2.2 hb⟩) (fun bv W w1 hEw hb => ⟨kc hb hEw.1, kfz hb (klt hEw.1) hEw.2.1, kc hb hEw.2.2.1, kfz hb (klt hEw.2.2.1) hEw.2.2.2.1, kc hb hEw.2.2.2.2.1, kfz hb (klt hEw.2.2.2.2.1) hEw.2.2.2.2.2.1, kc hb hEw.2.2.2.2.2.2.1, kfz hb (klt hEw.2.2.2.2.2.2.1) hEw.2.2.2.2.2.2.2.1, kc hb hEw.2.2.2.2.2.2.2.2.1, kfz hb (klt hEw.2.2.2.2.2.2.2.2.1) hEw.2.2.2.2.2.2.2.2.2.1, hEw.2.2.2.2.2.2.2.2.2.2⟩) ?_ ?_ ?_
  · intro a W; show (execOp _ _).run _ _ = _; first | rfl | kernel_rfl
  · intro W hSw
    have hzW := (hSw.2.2.2.2.2.2.2.2.2.2.2.2.2.2.2.2.2.2.2.2.2.2.2.2.2.2.2.2).size
    have hkW0 := klt (hSw.1)
    have hkW2 := klt (hSw.2.2.1)
    have hkW4 := klt (hSw.2.2.2.2.1)
    have hkW6 := klt (hSw.2.2.2.2.2.2.1)
    have hkW8 := klt (hSw.2.2.2.2.2.2.2.2.1)
    refine ⟨?_, ?_, ?_, ?_, ?_, ?_, ?_, ?_, ?_, ?_, ?_, ?_, ?_, ?_, ?_, ?_⟩ <;> first | (go_simp; done) | omega | (dsimp only; omega)
  · (try dsimp only)
    refine ⟨?_, ?_, ?_, ?_, ?_, ?_, ?_, ?_, ?_, ?_, ?_, ?_, ?_, ?_, ?_, ?_, ?_, ?_, ?_, ?_, ?_, ?_, ?_, ?_, ?_, ?_, ?_, ?_, ?_⟩ <;> first | (go_simp; done) | (simp [*]; done) | go_grown
  (try simp only [List.append_eq, List.cons_append, List.nil_append, List.toList_toArray, List.take_succ_cons, List.take_zero, List.drop_succ_cons, List.drop_zero])
  repeat (first
    | (refine PlanA.skip (by decide) ?_)
    | (refine PlanA.val (v := ?_) (by decide) ?_ ?_ ?_; rotate_left; (· rfl); (· (intro W hSw; (try dsimp only at hSw); go_simp; all_goals (first | (with_reducible rfl) | (constructor <;> (with_reducible rfl))))); (try simp only [Act.put, List.setIfInBounds_toArray, List.set_cons_zero, List.set_cons_succ]))
    | (refine PlanA.no (by decide) ?_ ?_; (· rfl); (try simp only [Act.put, List.setIfInBounds_toArray, List.set_cons_zero, List.set_cons_succ]))
    | (refine PlanA.call (v := ?_) (f := ?_) (args := ?_) (by decide) ?_ ?_ ?_ ?_; rotate_left 3; (· rfl); (· (intro W hSw; (try dsimp only at hSw); go_simp; all_goals (first | (with_reducible rfl) | (constructor <;> (with_reducible rfl))))); (· (intro W hSw; (try dsimp only at hSw); first | (go_at_call 33; ((with_reducible refine (one_b _ _).mono ?_); rintro _ wz ⟨rfl, hb⟩; (refine ⟨?_, hb⟩; with_reducible rfl))) | (go_at_call 32; ((with_reducible refine (binary_r _ _ _ _).mono ?_); rintro _ wz ⟨rfl, hb⟩; (refine ⟨?_, hb⟩; with_reducible rfl))) | (go_at_call 34; ((with_reducible refine (decimal_r _ _ _ _).mono ?_); rintro _ wz ⟨rfl, hb⟩; (refine ⟨?_, hb⟩; with_reducible rfl))) | (go_at_call 38; ((with_reducible refine (less_r _ _ _ _).mono ?_); rintro _ wz ⟨rfl, hb⟩; (refine ⟨?_, hb⟩; with_reducible rfl))))); (try simp only [Act.put, List.setIfInBounds_toArray, List.set_cons_zero, List.set_cons_succ])))
  refine PlanA.done ?_
  intro bv w1 T E
  (try dsimp only at T E)
  (try simp only [Act.put, List.setIfInBounds_toArray, List.set_cons_zero, List.set_cons_succ])
  obtain ⟨ha_0, ha_1, hb_0, hb_1, hc_0, hc_1, hd_0, hd_1, hr_0, fr_0, hr_1, fr_1, hr_2, fr_2, hr_3, fr_3, hr_4, fr_4, hr_5, fr_5, hr_6, fr_6, hr_7, fr_7, hr_8, fr_8, hr_9, fr_9, hB⟩ := T
  obtain ⟨hv_0, fv_0, hv_1, fv_1, hv_2, fv_2, hv_3, fv_3, hv_4, fv_4, hg_bv, hq_bv_a, hq_bv_b, hq_bv_c, hq_bv_d, hq_bv_r⟩ := E
  have hr_bv_a : ¬ w.heap.size = bv := by omega
  have hs_bv_a : ¬ bv = w.heap.size := by omega
  have hr_bv_b : ¬ w.heap.size + 1 = bv := by omega
  have hs_bv_b : ¬ bv = w.heap.size + 1 := by omega
  have hr_bv_c : ¬ w.heap.size + 1 + 1 = bv := by omega
  have hs_bv_c : ¬ bv = w.heap.size + 1 + 1 := by omega
  have hr_bv_d : ¬ w.heap.size + 1 + 1 + 1 = bv := by omega
  have hs_bv_d : ¬ bv = w.heap.size + 1 + 1 + 1 := by omega
  have hr_bv_r : ¬ w.heap.size + 1 + 1 + 1 + 1 = bv := by omega
  have hs_bv_r : ¬ bv = w.heap.size + 1 + 1 + 1 + 1 := by omega
  have hsz := hB.size
  have hla := klt ha_0
  have hlb := klt hb_0
  have hlc := klt hc_0
  have hld := klt hd_0
  have hlr := klt hr_0
  have hlv := klt hv_0
  have hna0 : ¬ (w.heap.size = w1.heap.size) := by omega
  have hna1 : ¬ (w.heap.size = w1.heap.size + 1) := by omega
  have hka1 : w.heap.size < w1.heap.size + 1 := by omega
  have hna2 : ¬ (w.heap.size = w1.heap.size + 1 + 1) := by omega
  have hka2 : w.heap.size < w1.heap.size + 1 + 1 := by omega
  have hnb0 : ¬ (w.heap.size + 1 = w1.heap.size) := by omega
  have hkb1 : w.heap.size < w1.heap.size := by omega
  have hnc0 : ¬ (w.heap.size + 1 + 1 = w1.heap.size) := by omega
  have hkc1 : w.heap.size + 1 < w1.heap.size := by omega
  have hnd0 : ¬ (w.heap.size + 1 + 1 + 1 = w1.heap.size) := by omega
  have hkd1 : w.heap.size + 1 + 1 < w1.heap.size := by omega
  have hnr0 : ¬ (w.heap.size + 1 + 1 + 1 + 1 = w1.heap.size) := by omega
  have hkr1 : w.heap.size + 1 + 1 + 1 < w1.heap.size := by omega
  have hnv0 : ¬ (bv = w1.heap.size) := by omega
  have hnv1 : ¬ (bv = w1.heap.size + 1) := by omega
  have hkv1 : bv < w1.heap.size + 1 := by omega
  have hnv2 : ¬ (bv = w1.heap.size + 1 + 1) := by omega
  have hkv2 : bv < w1.heap.size + 1 + 1 := by omega
  go_wp2_with fail
  refine wp_region_planT 10 (fun w' => w'.cell? ⟨w.heap.size, 0, none⟩ = some (B8 x) ∧ w'.cell? ⟨w.heap.size, 1, none⟩ = some (B8 t) ∧ w'.cell? ⟨w.heap.size + 1, 0, none⟩ = some (B8 y) ∧ w'.cell? ⟨w.heap.size + 1, 1, none⟩ = some (B8 s) ∧ w'.cell? ⟨w.heap.size + 1 + 1, 0, none⟩ = some (.bool c) ∧ w'.cell? ⟨w.heap.size + 1 + 1, 1, none⟩ = some (.bool ct) ∧ w'.cell? ⟨w.heap.size + 1 + 1 + 1, 0, none⟩ = some (.bool true) ∧ w'.cell? ⟨w.heap.size + 1 + 1 + 1, 1, none⟩ = some (.bool false) ∧ w'.cell? ⟨w.heap.size + 1 + 1 + 1 + 1, 0, none⟩ = some (.int .u8 0) ∧ w'.frozen? ⟨w.heap.size + 1 + 1 + 1 + 1, 0, none⟩ = false ∧ w'.cell? ⟨w.heap.size + 1 + 1 + 1 + 1, 1, none⟩ = some (.int .u8 0) ∧ w'.frozen? ⟨w.heap.size + 1 + 1 + 1 + 1, 1, none⟩ = false ∧ w'.cell? ⟨w.heap.size + 1 + 1 + 1 + 1, 2, none⟩ = some (.bool false) ∧ w'.frozen? ⟨w.heap.size + 1 + 1 + 1 + 1, 2, none⟩ = false ∧ w'.cell? ⟨w.heap.size + 1 + 1 + 1 + 1, 3, none⟩ = some (.bool false) ∧ w'.frozen? ⟨w.heap.size + 1 + 1 + 1 + 1, 3, none⟩ = false ∧ w'.cell? ⟨w.heap.size + 1 + 1 + 1 + 1, 4, none⟩ = some (.bool false) ∧ w'.frozen? ⟨w.heap.size + 1 + 1 + 1 + 1, 4, none⟩ = false ∧ w'.cell? ⟨w.heap.size + 1 + 1 + 1 + 1, 5, none⟩ = some (.bool false) ∧ w'.frozen? ⟨w.heap.size + 1 + 1 + 1 + 1, 5, none⟩ = false ∧ w'.cell? ⟨w.heap.size + 1 + 1 + 1 + 1, 6, none⟩ = some (.bool false) ∧ w'.frozen? ⟨w.heap.size + 1 + 1 + 1 + 1, 6, none⟩ = false ∧ w'.cell? ⟨w.heap.size + 1 + 1 + 1 + 1, 7, none⟩ = some (.bool false) ∧ w'.frozen? ⟨w.heap.size + 1 + 1 + 1 + 1, 7, none⟩ = false ∧ w'.cell? ⟨w.heap.size + 1 + 1 + 1 + 1, 8, none⟩ = some (.bool false) ∧ w'.frozen? ⟨w.heap.size + 1 + 1 + 1 + 1, 8, none⟩ = false ∧ w'.cell? ⟨w.heap.size + 1 + 1 + 1 + 1, 9, none⟩ = some (.bool false) ∧ w'.frozen? ⟨w.heap.size + 1 + 1 + 1 + 1, 9, none⟩ = false ∧ w'.cell? ⟨bv, 0, none⟩ = some (.int .i64 (u8 (addV x (~~~y) c).a)) ∧ w'.frozen? ⟨bv, 0, none⟩ = false ∧ w'.cell? ⟨bv, 1, none⟩ = some (.bool (addV x (~~~y) c).n) ∧ w'.frozen? ⟨bv, 1, none⟩ = false ∧ w'.cell? ⟨bv, 2, none⟩ = some (.bool (addV x (~~~y) c).v) ∧ w'.frozen? ⟨bv, 2, none⟩ = false ∧ w'.cell? ⟨bv, 3, none⟩ = some (.bool (addV x (~~~y) c).z) ∧ w'.frozen? ⟨bv, 3, none⟩ = false ∧ w'.cell? ⟨bv, 4, none⟩ = some (.bool (addV x (~~~y) c).c) ∧ w'.frozen? ⟨bv, 4, none⟩ = false ∧ Below w.heap.size w w') (by kernel_rfl) (by kernel_rfl) (by kernel_rfl) (by kernel_rfl) ?_ ?_
  · (try dsimp only)
    refine ⟨?_, ?_, ?_, ?_, ?_, ?_, ?_, ?_, ?_, ?_, ?_, ?_, ?_, ?_, ?_, ?_, ?_, ?_, ?_, ?_, ?_, ?_, ?_, ?_, ?_, ?_, ?_, ?_, ?_, ?_, ?_, ?_, ?_, ?_, ?_, ?_, ?_, ?_, ?_⟩ <;> first | (go_simp; done) | (simp [*]; done) | go_grown
  (try simp only [List.append_eq, List.cons_append, List.nil_append, List.toList_toArray, List.take_succ_cons, List.take_zero, List.drop_succ_cons, List.drop_zero])
  repeat (first
    | (refine Plan.val (v := ?_) ?_ ?_ ?_; rotate_left; (· rfl); (· (intro W hSw; (try dsimp only at hSw); go_simp; all_goals (first | (with_reducible rfl) | (constructor <;> (with_reducible rfl))))); (try simp only [Act.put, List.setIfInBounds_toArray, List.set_cons_zero, List.set_cons_succ]))
    | (refine Plan.no ?_ ?_; (· rfl); (try simp only [Act.put, List.setIfInBounds_toArray, List.set_cons_zero, List.set_cons_succ]))
    | (refine Plan.call (v := ?_) (f := ?_) (args := ?_) ?_ ?_ ?_ ?_; rotate_left 3; (· rfl); (· (intro W hSw; (try dsimp only at hSw); go_simp; all_goals (first | (with_reducible rfl) | (constructor <;> (with_reducible rfl))))); (· (intro W hSw; (try dsimp only at hSw); first | (go_at_call 33; ((with_reducible refine (one_b _ _).mono ?_); rintro _ wz ⟨rfl, hb⟩; (refine ⟨?_, ?_⟩; (· with_reducible rfl); exact ⟨kc hb hSw.1, kc hb hSw.2.1, kc hb hSw.2.2.1, kc hb hSw.2.2.2.1, kc hb hSw.2.2.2.2.1, kc hb hSw.2.2.2.2.2.1, kc hb hSw.2.2.2.2.2.2.1, kc hb hSw.2.2.2.2.2.2.2.1, kc hb hSw.2.2.2.2.2.2.2.2.1, kfz hb (klt hSw.2.2.2.2.2.2.2.2.1) hSw.2.2.2.2.2.2.2.2.2.1, kc hb hSw.2.2.2.2.2.2.2.2.2.2.1, kfz hb (klt hSw.2.2.2.2.2.2.2.2.2.2.1) hSw.2.2.2.2.2.2.2.2.2.2.2.1, kc hb hSw.2.2.2.2.2.2.2.2.2.2.2.2.1, kfz hb (klt hSw.2.2.2.2.2.2.2.2.2.2.2.2.1) hSw.2.2.2.2.2.2.2.2.2.2.2.2.2.1, kc hb hSw.2.2.2.2.2.2.2.2.2.2.2.2.2.2.1, kfz hb (klt hSw.2.2.2.2.2.2.2.2.2.2.2.2.2.2.1) hSw.2.2.2.2.2.2.2.2.2.2.2.2.2.2.2.1, kc hb hSw.2.2.2.2.2.2.2.2.2.2.2.2.2.2.2.2.1, kfz hb (klt hSw.2.2.2.2.2.2.2.2.2.2.2.2.2.2.2.2.1) hSw.2.2.2.2.2.2.2.2.2.2.2.2.2.2.2.2.2.1, kc hb hSw.2.2.2.2.2.2.2.2.2.2.2.2.2.2.2.2.2.2.1, kfz hb (klt hSw.2.2.2.2.2.2.2.2.2.2.2.2.2.2.2.2.2.2.1) hSw.2.2.2.2.2.2.2.2.2.2.2.2.2.2.2.2.2.2.2.1, kc hb hSw.2.2.2.2.2.2.2.2.2.2.2.2.2.2.2.2.2.2.2.2.1, kfz hb (klt hSw.2.2.2.2.2.2.2.2.2.2.2.2.2.2.2.2.2.2.2.2.1) hSw.2.2.2.2.2.2.2.2.2.2.2.2.2.2.2.2.2.2.2.2.2.1, kc hb hSw.2.2.2.2.2.2.2.2.2.2.2.2.2.2.2.2.2.2.2.2.2.2.1, kfz hb (klt hSw.2.2.2.2.2.2.2.2.2.2.2.2.2.2.2.2.2.2.2.2.2.2.1) hSw.2.2.2.2.2.2.2.2.2.2.2.2.2.2.2.2.2.2.2.2.2.2.2.1, kc hb hSw.2.2.2.2.2.2.2.2.2.2.2.2.2.2.2.2.2.2.2.2.2.2.2.2.1, kfz hb (klt hSw.2.2.2.2.2.2.2.2.2.2.2.2.2.2.2.2.2.2.2.2.2.2.2.2.1) hSw.2.2.2.2.2.2.2.2.2.2.2.2.2.2.2.2.2.2.2.2.2.2.2.2.2.1, kc hb hSw.2.2.2.2.2.2.2.2.2.2.2.2.2.2.2.2.2.2.2.2.2.2.2.2.2.2.1, kfz hb (klt hSw.2.2.2.2.2.2.2.2.2.2.2.2.2.2.2.2.2.2.2.2.2.2.2.2.2.2.1) hSw.2.2.2.2.2.2.2.2.2.2.2.2.2.2.2.2.2.2.2.2.2.2.2.2.2.2.2.1, kc hb hSw.2.2.2.2.2.2.2.2.2.2.2.2.2.2.2.2.2.2.2.2.2.2.2.2.2.2.2.2.1, kfz hb (klt hSw.2.2.2.2.2.2.2.2.2.2.2.2.2.2.2.2.2.2.2.2.2.2.2.2.2.2.2.2.1) hSw.2.2.2.2.2.2.2.2.2.2.2.2.2.2.2.2.2.2.2.2.2.2.2.2.2.2.2.2.2.1, kc hb hSw.2.2.2.2.2.2.2.2.2.2.2.2.2.2.2.2.2.2.2.2.2.2.2.2.2.2.2.2.2.2.1, kfz hb (klt hSw.2.2.2.2.2.2.2.2.2.2.2.2.2.2.2.2.2.2.2.2.2.2.2.2.2.2.2.2.2.2.1) hSw.2.2.2.2.2.2.2.2.2.2.2.2.2.2.2.2.2.2.2.2.2.2.2.2.2.2.2.2.2.2.2.1, kc hb hSw.2.2.2.2.2.2.2.2.2.2.2.2.2.2.2.2.2.2.2.2.2.2.2.2.2.2.2.2.2.2.2.2.1, kfz hb (klt hSw.2.2.2.2.2.2.2.2.2.2.2.2.2.2.2.2.2.2.2.2.2.2.2.2.2.2.2.2.2.2.2.2.1) hSw.2.2.2.2.2.2.2.2.2.2.2.2.2.2.2.2.2.2.2.2.2.2.2.2.2.2.2.2.2.2.2.2.2.1, kc hb hSw.2.2.2.2.2.2.2.2.2.2.2.2.2.2.2.2.2.2.2.2.2.2.2.2.2.2.2.2.2.2.2.2.2.2.1, kfz hb (klt hSw.2.2.2.2.2.2.2.2.2.2.2.2.2.2.2.2.2.2.2.2.2.2.2.2.2.2.2.2.2.2.2.2.2.2.1) hSw.2.2.2.2.2.2.2.2.2.2.2.2.2.2.2.2.2.2.2.2.2.2.2.2.2.2.2.2.2.2.2.2.2.2.2.1, kc hb hSw.2.2.2.2.2.2.2.2.2.2.2.2.2.2.2.2.2.2.2.2.2.2.2.2.2.2.2.2.2.2.2.2.2.2.2.2.1, kfz hb (klt hSw.2.2.2.2.2.2.2.2.2.2.2.2.2.2.2.2.2.2.2.2.2.2.2.2.2.2.2.2.2.2.2.2.2.2.2.2.1) hSw.2.2.2.2.2.2.2.2.2.2.2.2.2.2.2.2.2.2.2.2.2.2.2.2.2.2.2.2.2.2.2.2.2.2.2.2.2.1, kb hSw.2.2.2.2.2.2.2.2.2.2.2.2.2.2.2.2.2.2.2.2.2.2.2.2.2.2.2.2.2.2.2.2.2.2.2.2.2.2 hb⟩))) | (go_at_call 32; ((with_reducible refine (binary_r _ _ _ _).mono ?_); rintro _ wz ⟨rfl, hb⟩; (refine ⟨?_, ?_⟩; (· with_reducible rfl); exact ⟨kc hb hSw.1, kc hb hSw.2.1, kc hb hSw.2.2.1, kc hb hSw.2.2.2.1, kc hb hSw.2.2.2.2.1, kc hb hSw.2.2.2.2.2.1, kc hb hSw.2.2.2.2.2.2.1, kc hb hSw.2.2.2.2.2.2.2.1, kc hb hSw.2.2.2.2.2.2.2.2.1, kfz hb (klt hSw.2.2.2.2.2.2.2.2.1) hSw.2.2.2.2.2.2.2.2.2.1, kc hb hSw.2.2.2.2.2.2.2.2.2.2.1, kfz hb (klt hSw.2.2.2.2.2.2.2.2.2.2.1) hSw.2.2.2.2.2.2.2.2.2.2.2.1, kc hb hSw.2.2.2.2.2.2.2.2.2.2.2.2.1, kfz hb (klt hSw.2.2.2.2.2.2.2.2.2.2.2.2.1) hSw.2.2.2.2.2.2.2.2.2.2.2.2.2.1, kc hb hSw.2.2.2.2.2.2.2.2.2.2.2.2.2.2.1, kfz hb (klt hSw.2.2.2.2.2.2.2.2.2.2.2.2.2.2.1) hSw.2.2.2.2.2.2.2.2.2.2.2.2.2.2.2.1, kc hb hSw.2.2.2.2.2.2.2.2.2.2.2.2.2.2.2.2.1, kfz hb (klt hSw.2.2.2.2.2.2.2.2.2.2.2.2.2.2.2.2.1) hSw.2.2.2.2.2.2.2.2.2.2.2.2.2.2.2.2.2.1, kc hb hSw.2.2.2.2.2.2.2.2.2.2.2.2.2.2.2.2.2.2.1, kfz hb (klt hSw.2.2.2.2.2.2.2.2.2.2.2.2.2.2.2.2.2.2.1) hSw.2.2.2.2.2.2.2.2.2.2.2.2.2.2.2.2.2.2.2.1, kc hb hSw.2.2.2.2.2.2.2.2.2.2.2.2.2.2.2.2.2.2.2.2.1, kfz hb (klt hSw.2.2.2.2.2.2.2.2.2.2.2.2.2.2.2.2.2.2.2.2.1) hSw.2.2.2.2.2.2.2.2.2.2.2.2.2.2.2.2.2.2.2.2.2.1, kc hb hSw.2.2.2.2.2.2.2.2.2.2.2.2.2.2.2.2.2.2.2.2.2.2.1, kfz hb (klt hSw.2.2.2.2.2.2.2.2.2.2.2.2.2.2.2.2.2.2.2.2.2.2.1) hSw.2.2.2.2.2.2.2.2.2.2.2.2.2.2.2.2.2.2.2.2.2.2.2.1, kc hb hSw.2.2.2.2.2.2.2.2.2.2.2.2.2.2.2.2.2.2.2.2.2.2.2.2.1, kfz hb (klt hSw.2.2.2.2.2.2.2.2.2.2.2.2.2.2.2.2.2.2.2.2.2.2.2.2.1) hSw.2.2.2.2.2.2.2.2.2.2.2.2.2.2.2.2.2.2.2.2.2.2.2.2.2.1, kc hb hSw.2.2.2.2.2.2.2.2.2.2.2.2.2.2.2.2.2.2.2.2.2.2.2.2.2.2.1, kfz hb (klt hSw.2.2.2.2.2.2.2.2.2.2.2.2.2.2.2.2.2.2.2.2.2.2.2.2.2.2.1) hSw.2.2.2.2.2.2.2.2.2.2.2.2.2.2.2.2.2.2.2.2.2.2.2.2.2.2.2.1, kc hb hSw.2.2.2.2.2.2.2.2.2.2.2.2.2.2.2.2.2.2.2.2.2.2.2.2.2.2.2.2.1, kfz hb (klt hSw.2.2.2.2.2.2.2.2.2.2.2.2.2.2.2.2.2.2.2.2.2.2.2.2.2.2.2.2.1) hSw.2.2.2.2.2.2.2.2.2.2.2.2.2.2.2.2.2.2.2.2.2.2.2.2.2.2.2.2.2.1, kc hb hSw.2.2.2.2.2.2.2.2.2.2.2.2.2.2.2.2.2.2.2.2.2.2.2.2.2.2.2.2.2.2.1, kfz hb (klt hSw.2.2.2.2.2.2.2.2.2.2.2.2.2.2.2.2.2.2.2.2.2.2.2.2.2.2.2.2.2.2.1) hSw.2.2.2.2.2.2.2.2.2.2.2.2.2.2.2.2.2.2.2.2.2.2.2.2.2.2.2.2.2.2.2.1, kc hb hSw.2.2.2.2.2.2.2.2.2.2.2.2.2.2.2.2.2.2.2.2.2.2.2.2.2.2.2.2.2.2.2.2.1, kfz hb (klt hSw.2.2.2.2.2.2.2.2.2.2.2.2.2.2.2.2.2.2.2.2.2.2.2.2.2.2.2.2.2.2.2.2.1) hSw.2.2.2.2.2.2.2.2.2.2.2.2.2.2.2.2.2.2.2.2.2.2.2.2.2.2.2.2.2.2.2.2.2.1, kc hb hSw.2.2.2.2.2.2.2.2.2.2.2.2.2.2.2.2.2.2.2.2.2.2.2.2.2.2.2.2.2.2.2.2.2.2.1, kfz hb (klt hSw.2.2.2.2.2.2.2.2.2.2.2.2.2.2.2.2.2.2.2.2.2.2.2.2.2.2.2.2.2.2.2.2.2.2.1) hSw.2.2.2.2.2.2.2.2.2.2.2.2.2.2.2.2.2.2.2.2.2.2.2.2.2.2.2.2.2.2.2.2.2.2.2.1, kc hb hSw.2.2.2.2.2.2.2.2.2.2.2.2.2.2.2.2.2.2.2.2.2.2.2.2.2.2.2.2.2.2.2.2.2.2.2.2.1, kfz hb (klt hSw.2.2.2.2.2.2.2.2.2.2.2.2.2.2.2.2.2.2.2.2.2.2.2.2.2.2.2.2.2.2.2.2.2.2.2.2.1) hSw.2.2.2.2.2.2.2.2.2.2.2.2.2.2.2.2.2.2.2.2.2.2.2.2.2.2.2.2.2.2.2.2.2.2.2.2.2.1, kb hSw.2.2.2.2.2.2.2.2.2.2.2.2.2.2.2.2.2.2.2.2.2.2.2.2.2.2.2.2.2.2.2.2.2.2.2.2.2.2 hb⟩))) | (go_at_call 34; ((with_reducible refine (decimal_r _ _ _ _).mono ?_); rintro _ wz ⟨rfl, hb⟩; (refine ⟨?_, ?_⟩; (· with_reducible rfl); exact ⟨kc hb hSw.1, kc hb hSw.2.1, kc hb hSw.2.2.1, kc hb hSw.2.2.2.1, kc hb hSw.2.2.2.2.1, kc hb hSw.2.2.2.2.2.1, kc hb hSw.2.2.2.2.2.2.1, kc hb hSw.2.2.2.2.2.2.2.1, kc hb hSw.2.2.2.2.2.2.2.2.1, kfz hb (klt hSw.2.2.2.2.2.2.2.2.1) hSw.2.2.2.2.2.2.2.2.2.1, kc hb hSw.2.2.2.2.2.2.2.2.2.2.1, kfz hb (klt hSw.2.2.2.2.2.2.2.2.2.2.1) hSw.2.2.2.2.2.2.2.2.2.2.2.1, kc hb hSw.2.2.2.2.2.2.2.2.2.2.2.2.1, kfz hb (klt hSw.2.2.2.2.2.2.2.2.2.2.2.2.1) hSw.2.2.2.2.2.2.2.2.2.2.2.2.2.1, kc hb hSw.2.2.2.2.2.2.2.2.2.2.2.2.2.2.1, kfz hb (klt hSw.2.2.2.2.2.2.2.2.2.2.2.2.2.2.1) hSw.2.2.2.2.2.2.2.2.2.2.2.2.2.2.2.1, kc hb hSw.2.2.2.2.2.2.2.2.2.2.2.2.2.2.2.2.1, kfz hb (klt hSw.2.2.2.2.2.2.2.2.2.2.2.2.2.2.2.2.1) hSw.2.2.2.2.2.2.2.2.2.2.2.2.2.2.2.2.2.1, kc hb hSw.2.2.2.2.2.2.2.2.2.2.2.2.2.2.2.2.2.2.1, kfz hb (klt hSw.2.2.2.2.2.2.2.2.2.2.2.2.2.2.2.2.2.2.1) hSw.2.2.2.2.2.2.2.2.2.2.2.2.2.2.2.2.2.2.2.1, kc hb hSw.2.2.2.2.2.2.2.2.2.2.2.2.2.2.2.2.2.2.2.2.1, kfz hb (klt hSw.2.2.2.2.2.2.2.2.2.2.2.2.2.2.2.2.2.2.2.2.1) hSw.2.2.2.2.2.2.2.2.2.2.2.2.2.2.2.2.2.2.2.2.2.1, kc hb hSw.2.2.2.2.2.2.2.2.2.2.2.2.2.2.2.2.2.2.2.2.2.2.1, kfz hb (klt hSw.2.2.2.2.2.2.2.2.2.2.2.2.2.2.2.2.2.2.2.2.2.2.1) hSw.2.2.2.2.2.2.2.2.2.2.2.2.2.2.2.2.2.2.2.2.2.2.2.1, kc hb hSw.2.2.2.2.2.2.2.2.2.2.2.2.2.2.2.2.2.2.2.2.2.2.2.2.1, kfz hb (klt hSw.2.2.2.2.2.2.2.2.2.2.2.2.2.2.2.2.2.2.2.2.2.2.2.2.1) hSw.2.2.2.2.2.2.2.2.2.2.2.2.2.2.2.2.2.2.2.2.2.2.2.2.2.1, kc hb hSw.2.2.2.2.2.2.2.2.2.2.2.2.2.2.2.2.2.2.2.2.2.2.2.2.2.2.1, kfz hb (klt hSw.2.2.2.2.2.2.2.2.2.2.2.2.2.2.2.2.2.2.2.2.2.2.2.2.2.2.1) hSw.2.2.2.2.2.2.2.2.2.2.2.2.2.2.2.2.2.2.2.2.2.2.2.2.2.2.2.1, kc hb hSw.2.2.2.2.2.2.2.2.2.2.2.2.2.2.2.2.2.2.2.2.2.2.2.2.2.2.2.2.1, kfz hb (klt hSw.2.2.2.2.2.2.2.2.2.2.2.2.2.2.2.2.2.2.2.2.2.2.2.2.2.2.2.2.1) hSw.2.2.2.2.2.2.2.2.2.2.2.2.2.2.2.2.2.2.2.2.2.2.2.2.2.2.2.2.2.1, kc hb hSw.2.2.2.2.2.2.2.2.2.2.2.2.2.2.2.2.2.2.2.2.2.2.2.2.2.2.2.2.2.2.1, kfz hb (klt hSw.2.2.2.2.2.2.2.2.2.2.2.2.2.2.2.2.2.2.2.2.2.2.2.2.2.2.2.2.2.2.1) hSw.2.2.2.2.2.2.2.2.2.2.2.2.2.2.2.2.2.2.2.2.2.2.2.2.2.2.2.2.2.2.2.1, kc hb hSw.2.2.2.2.2.2.2.2.2.2.2.2.2.2.2.2.2.2.2.2.2.2.2.2.2.2.2.2.2.2.2.2.1, kfz hb (klt hSw.2.2.2.2.2.2.2.2.2.2.2.2.2.2.2.2.2.2.2.2.2.2.2.2.2.2.2.2.2.2.2.2.1) hSw.2.2.2.2.2.2.2.2.2.2.2.2.2.2.2.2.2.2.2.2.2.2.2.2.2.2.2.2.2.2.2.2.2.1, kc hb hSw.2.2.2.2.2.2.2.2.2.2.2.2.2.2.2.2.2.2.2.2.2.2.2.2.2.2.2.2.2.2.2.2.2.2.1, kfz hb (klt hSw.2.2.2.2.2.2.2.2.2.2.2.2.2.2.2.2.2.2.2.2.2.2.2.2.2.2.2.2.2.2.2.2.2.2.1) hSw.2.2.2.2.2.2.2.2.2.2.2.2.2.2.2.2.2.2.2.2.2.2.2.2.2.2.2.2.2.2.2.2.2.2.2.1, kc hb hSw.2.2.2.2.2.2.2.2.2.2.2.2.2.2.2.2.2.2.2.2.2.2.2.2.2.2.2.2.2.2.2.2.2.2.2.2.1, kfz hb (klt hSw.2.2.2.2.2.2.2.2.2.2.2.2.2.2.2.2.2.2.2.2.2.2.2.2.2.2.2.2.2.2.2.2.2.2.2.2.1) hSw.2.2.2.2.2.2.2.2.2.2.2.2.2.2.2.2.2.2.2.2.2.2.2.2.2.2.2.2.2.2.2.2.2.2.2.2.2.1, kb hSw.2.2.2.2.2.2.2.2.2.2.2.2.2.2.2.2.2.2.2.2.2.2.2.2.2.2.2.2.2.2.2.2.2.2.2.2.2.2 hb⟩))) | (go_at_call 38; ((with_reducible refine (less_r _ _ _ _).mono ?_); rintro _ wz ⟨rfl, hb⟩; (refine ⟨?_, ?_⟩; (· with_reducible rfl); exact ⟨kc hb hSw.1, kc hb hSw.2.1, kc hb hSw.2.2.1, kc hb hSw.2.2.2.1, kc hb hSw.2.2.2.2.1, kc hb hSw.2.2.2.2.2.1, kc hb hSw.2.2.2.2.2.2.1, kc hb hSw.2.2.2.2.2.2.2.1, kc hb hSw.2.2.2.2.2.2.2.2.1, kfz hb (klt hSw.2.2.2.2.2.2.2.2.1) hSw.2.2.2.2.2.2.2.2.2.1, kc hb hSw.2.2.2.2.2.2.2.2.2.2.1, kfz hb (klt hSw.2.2.2.2.2.2.2.2.2.2.1) hSw.2.2.2.2.2.2.2.2.2.2.2.1, kc hb hSw.2.2.2.2.2.2.2.2.2.2.2.2.1, kfz hb (klt hSw.2.2.2.2.2.2.2.2.2.2.2.2.1) hSw.2.2.2.2.2.2.2.2.2.2.2.2.2.1, kc hb hSw.2.2.2.2.2.2.2.2.2.2.2.2.2.2.1, kfz hb (klt hSw.2.2.2.2.2.2.2.2.2.2.2.2.2.2.1) hSw.2.2.2.2.2.2.2.2.2.2.2.2.2.2.2.1, kc hb hSw.2.2.2.2.2.2.2.2.2.2.2.2.2.2.2.2.1, kfz hb (klt hSw.2.2.2.2.2.2.2.2.2.2.2.2.2.2.2.2.1) hSw.2.2.2.2.2.2.2.2.2.2.2.2.2.2.2.2.2.1, kc hb hSw.2.2.2.2.2.2.2.2.2.2.2.2.2.2.2.2.2.2.1, kfz hb (klt hSw.2.2.2.2.2.2.2.2.2.2.2.2.2.2.2.2.2.2.1) hSw.2.2.2.2.2.2.2.2.2.2.2.2.2.2.2.2.2.2.2.1, kc hb hSw.2.2.2.2.2.2.2.2.2.2.2.2.2.2.2.2.2.2.2.2.1, kfz hb (klt hSw.2.2.2.2.2.2.2.2.2.2.2.2.2.2.2.2.2.2.2.2.1) hSw.2.2.2.2.2.2.2.2.2.2.2.2.2.2.2.2.2.2.2.2.2.1, kc hb hSw.2.2.2.2.2.2.2.2.2.2.2.2.2.2.2.2.2.2.2.2.2.2.1, kfz hb (klt hSw.2.2.2.2.2.2.2.2.2.2.2.2.2.2.2.2.2.2.2.2.2.2.1) hSw.2.2.2.2.2.2.2.2.2.2.2.2.2.2.2.2.2.2.2.2.2.2.2.1, kc hb hSw.2.2.2.2.2.2.2.2.2.2.2.2.2.2.2.2.2.2.2.2.2.2.2.2.1, kfz hb (klt hSw.2.2.2.2.2.2.2.2.2.2.2.2.2.2.2.2.2.2.2.2.2.2.2.2.1) hSw.2.2.2.2.2.2.2.2.2.2.2.2.2.2.2.2.2.2.2.2.2.2.2.2.2.1, kc hb hSw.2.2.2.2.2.2.2.2.2.2.2.2.2.2.2.2.2.2.2.2.2.2.2.2.2.2.1, kfz hb (klt hSw.2.2.2.2.2.2.2.2.2.2.2.2.2.2.2.2.2.2.2.2.2.2.2.2.2.2.1) hSw.2.2.2.2.2.2.2.2.2.2.2.2.2.2.2.2.2.2.2.2.2.2.2.2.2.2.2.1, kc hb hSw.2.2.2.2.2.2.2.2.2.2.2.2.2.2.2.2.2.2.2.2.2.2.2.2.2.2.2.2.1, kfz hb (klt hSw.2.2.2.2.2.2.2.2.2.2.2.2.2.2.2.2.2.2.2.2.2.2.2.2.2.2.2.2.1) hSw.2.2.2.2.2.2.2.2.2.2.2.2.2.2.2.2.2.2.2.2.2.2.2.2.2.2.2.2.2.1, kc hb hSw.2.2.2.2.2.2.2.2.2.2.2.2.2.2.2.2.2.2.2.2.2.2.2.2.2.2.2.2.2.2.1, kfz hb (klt hSw.2.2.2.2.2.2.2.2.2.2.2.2.2.2.2.2.2.2.2.2.2.2.2.2.2.2.2.2.2.2.1) hSw.2.2.2.2.2.2.2.2.2.2.2.2.2.2.2.2.2.2.2.2.2.2.2.2.2.2.2.2.2.2.2.1, kc hb hSw.2.2.2.2.2.2.2.2.2.2.2.2.2.2.2.2.2.2.2.2.2.2.2.2.2.2.2.2.2.2.2.2.1, kfz hb (klt hSw.2.2.2.2.2.2.2.2.2.2.2.2.2.2.2.2.2.2.2.2.2.2.2.2.2.2.2.2.2.2.2.2.1) hSw.2.2.2.2.2.2.2.2.2.2.2.2.2.2.2.2.2.2.2.2.2.2.2.2.2.2.2.2.2.2.2.2.2.1, kc hb hSw.2.2.2.2.2.2.2.2.2.2.2.2.2.2.2.2.2.2.2.2.2.2.2.2.2.2.2.2.2.2.2.2.2.2.1, kfz hb (klt hSw.2.2.2.2.2.2.2.2.2.2.2.2.2.2.2.2.2.2.2.2.2.2.2.2.2.2.2.2.2.2.2.2.2.2.1) hSw.2.2.2.2.2.2.2.2.2.2.2.2.2.2.2.2.2.2.2.2.2.2.2.2.2.2.2.2.2.2.2.2.2.2.2.1, kc hb hSw.2.2.2.2.2.2.2.2.2.2.2.2.2.2.2.2.2.2.2.2.2.2.2.2.2.2.2.2.2.2.2.2.2.2.2.2.1, kfz hb (klt hSw.2.2.2.2.2.2.2.2.2.2.2.2.2.2.2.2.2.2.2.2.2.2.2.2.2.2.2.2.2.2.2.2.2.2.2.2.1) hSw.2.2.2.2.2.2.2.2.2.2.2.2.2.2.2.2.2.2.2.2.2.2.2.2.2.2.2.2.2.2.2.2.2.2.2.2.2.1, kb hSw.2.2.2.2.2.2.2.2.2.2.2.2.2.2.2.2.2.2.2.2.2.2.2.2.2.2.2.2.2.2.2.2.2.2.2.2.2.2 hb⟩))))); (try simp only [Act.put, List.setIfInBounds_toArray, List.set_cons_zero, List.set_cons_succ])))
  refine Plan.done ?_
  intro w2 T
  (try dsimp only at T)
  clear ha_0 ha_1 hb_0 hb_1 hc_0 hc_1 hd_0 hd_1 hr_0 fr_0 hr_1 fr_1 hr_2 fr_2 hr_3 fr_3 hr_4 fr_4 hr_5 fr_5 hr_6 fr_6 hr_7 fr_7 hr_8 fr_8 hr_9 fr_9 hv_0 fv_0 hv_1 fv_1 hv_2 fv_2 hv_3 fv_3 hv_4 fv_4 hB hsz hla hlb hlc hld hlr hlv hna0 hna1 hka1 hna2 hka2 hnb0 hkb1 hnc0 hkc1 hnd0 hkd1 hnr0 hkr1 hnv0 hnv1 hkv1 hnv2 hkv2
  obtain ⟨ha_0, ha_1, hb_0, hb_1, hc_0, hc_1, hd_0, hd_1, hr_0, fr_0, hr_1, fr_1, hr_2, fr_2, hr_3, fr_3, hr_4, fr_4, hr_5, fr_5, hr_6, fr_6, hr_7, fr_7, hr_8, fr_8, hr_9, fr_9, hv1_0, fv1_0, hv1_1, fv1_1, hv1_2, fv1_2, hv1_3, fv1_3, hv1_4, fv1_4, hB⟩ := T
  have hsz := hB.size
  have hla := klt ha_0
  have hlb := klt hb_0
  have hlc := klt hc_0
  have hld := klt hd_0
  have hlr := klt hr_0
  have hlv1 := klt hv1_0
  have hna0 : ¬ (w.heap.size = w2.heap.size) := by omega
  have hna1 : ¬ (w.heap.size = w2.heap.size + 1) := by omega
  have hka1 : w.heap.size < w2.heap.size + 1 := by omega
  have hna2 : ¬ (w.heap.size = w2.heap.size + 1 + 1) := by omega
  have hka2 : w.heap.size < w2.heap.size + 1 + 1 := by omega
  have hnb0 : ¬ (w.heap.size + 1 = w2.heap.size) := by omega
  have hkb1 : w.heap.size < w2.heap.size := by omega
  have hnc0 : ¬ (w.heap.size + 1 + 1 = w2.heap.size) := by omega
  have hkc1 : w.heap.size + 1 < w2.heap.size := by omega
  have hnd0 : ¬ (w.heap.size + 1 + 1 + 1 = w2.heap.size) := by omega
  have hkd1 : w.heap.size + 1 + 1 < w2.heap.size := by omega
  have hnr0 : ¬ (w.heap.size + 1 + 1 + 1 + 1 = w2.heap.size) := by omega
  have hkr1 : w.heap.size + 1 + 1 + 1 < w2.heap.size := by omega
  have hnv10 : ¬ (bv = w2.heap.size) := by omega
  have hnv11 : ¬ (bv = w2.heap.size + 1) := by omega
  have hkv11 : bv < w2.heap.size + 1 := by omega
  have hnv12 : ¬ (bv = w2.heap.size + 1 + 1) := by omega
  have hkv12 : bv < w2.heap.size + 1 + 1 := by omega
  go_wp2_with fail
  ((with_reducible refine (secret_r _ _ _ _ _ _ _).mono ?_); rintro _ w3 ⟨rfl, hb⟩)
  have T : w3.cell? ⟨w.heap.size + 1 + 1 + 1, 0, none⟩ = some (.bool true) ∧ w3.cell? ⟨w.heap.size + 1 + 1 + 1, 1, none⟩ = some (.bool false) ∧ w3.cell? ⟨w.heap.size + 1 + 1 + 1 + 1, 0, none⟩ = some (.int .u8 0) ∧ w3.frozen? ⟨w.heap.size + 1 + 1 + 1 + 1, 0, none⟩ = false ∧ w3.cell? ⟨w.heap.size + 1 + 1 + 1 + 1, 1, none⟩ = some (.int .u8 0) ∧ w3.frozen? ⟨w.heap.size + 1 + 1 + 1 + 1, 1, none⟩ = false ∧ w3.cell? ⟨w.heap.size + 1 + 1 + 1 + 1, 2, none⟩ = some (.bool false) ∧ w3.frozen? ⟨w.heap.size + 1 + 1 + 1 + 1, 2, none⟩ = false ∧ w3.cell? ⟨w.heap.size + 1 + 1 + 1 + 1, 3, none⟩ = some (.bool false) ∧ w3.frozen? ⟨w.heap.size + 1 + 1 + 1 + 1, 3, none⟩ = false ∧ w3.cell? ⟨w.heap.size + 1 + 1 + 1 + 1, 4, none⟩ = some (.bool false) ∧ w3.frozen? ⟨w.heap.size + 1 + 1 + 1 + 1, 4, none⟩ = false ∧ w3.cell? ⟨w.heap.size + 1 + 1 + 1 + 1, 5, none⟩ = some (.bool false) ∧ w3.frozen? ⟨w.heap.size + 1 + 1 + 1 + 1, 5, none⟩ = false ∧ w3.cell? ⟨w.heap.size + 1 + 1 + 1 + 1, 6, none⟩ = some (.bool false) ∧ w3.frozen? ⟨w.heap.size + 1 + 1 + 1 + 1, 6, none⟩ = false ∧ w3.cell? ⟨w.heap.size + 1 + 1 + 1 + 1, 7, none⟩ = some (.bool false) ∧ w3.frozen? ⟨w.heap.size + 1 + 1 + 1 + 1, 7, none⟩ = false ∧ w3.cell? ⟨w.heap.size + 1 + 1 + 1 + 1, 8, none⟩ = some (.bool false) ∧ w3.frozen? ⟨w.heap.size + 1 + 1 + 1 + 1, 8, none⟩ = false ∧ w3.cell? ⟨w.heap.size + 1 + 1 + 1 + 1, 9, none⟩ = some (.bool false) ∧ w3.frozen? ⟨w.heap.size + 1 + 1 + 1 + 1, 9, none⟩ = false ∧ w3.cell? ⟨bv, 0, none⟩ = some (.int .i64 (u8 (subD x y c).a)) ∧ w3.frozen? ⟨bv, 0, none⟩ = false ∧ w3.cell? ⟨bv, 1, none⟩ = some (.bool (subD x y c).n) ∧ w3.frozen? ⟨bv, 1, none⟩ = false ∧ w3.cell? ⟨bv, 2, none⟩ = some (.bool (subD x y c).v) ∧ w3.frozen? ⟨bv, 2, none⟩ = false ∧ w3.cell? ⟨bv, 3, none⟩ = some (.bool (subD x y c).z) ∧ w3.frozen? ⟨bv, 3, none⟩ = false ∧ w3.cell? ⟨bv, 4, none⟩ = some (.bool (subD x y c).c) ∧ w3.frozen? ⟨bv, 4, none⟩ = false := by
      refine ⟨?_, ?_, ?_, ?_, ?_, ?_, ?_, ?_, ?_, ?_, ?_, ?_, ?_, ?_, ?_, ?_, ?_, ?_, ?_, ?_, ?_, ?_, ?_, ?_, ?_, ?_, ?_, ?_, ?_, ?_, ?_, ?_⟩ <;> first | (refine kc hb ?_ <;> (go_simp; first | done | rfl)) | (refine kfz hb ?_ ?_ <;> first | (go_size; done) | (go_simp; done))
  have hz := hb.size
  (try simp only [World.size_alloc, World.size_setCell, World.size_drew] at hz)
  have hld' : w.heap.size + 1 + 1 + 1 < w3.heap.size := by omega
  have hlr' : w.heap.size + 1 + 1 + 1 + 1 < w3.heap.size := by omega
  have hlv2' : bv < w3.heap.size := by omega
  have hB' : Below w.heap.size w w3 := by
      refine kb ?_ hb
      go_grown
  clear ha_0 ha_1 hb_0 hb_1 hc_0 hc_1 hd_0 hd_1 hr_0 fr_0 hr_1 fr_1 hr_2 fr_2 hr_3 fr_3 hr_4 fr_4 hr_5 fr_5 hr_6 fr_6 hr_7 fr_7 hr_8 fr_8 hr_9 fr_9 hv1_0 fv1_0 hv1_1 fv1_1 hv1_2 fv1_2 hv1_3 fv1_3 hv1_4 fv1_4 hB hsz hla hlb hlc hld hlr hlv1 hna0 hna1 hka1 hna2 hka2 hnb0 hkb1 hnc0 hkc1 hnd0 hkd1 hnr0 hkr1 hnv10 hnv11 hkv11 hnv12 hkv12
  clear hb hz
  obtain ⟨hd_0, hd_1, hr_0, fr_0, hr_1, fr_1, hr_2, fr_2, hr_3, fr_3, hr_4, fr_4, hr_5, fr_5, hr_6, fr_6, hr_7, fr_7, hr_8, fr_8, hr_9, fr_9, hv2_0, fv2_0, hv2_1, fv2_1, hv2_2, fv2_2, hv2_3, fv2_3, hv2_4, fv2_4⟩ := T
  have hld := hld'; clear hld'
  have hlr := hlr'; clear hlr'
  have hlv2 := hlv2'; clear hlv2'
  have hnd0 : ¬ (w.heap.size + 1 + 1 + 1 = w3.heap.size) := by omega
  have hnd1 : ¬ (w.heap.size + 1 + 1 = w3.heap.size) := by omega
  have hkd1 : w.heap.size + 1 + 1 < w3.heap.size := by omega
  have hnd2 : ¬ (w.heap.size + 1 = w3.heap.size) := by omega
  have hkd2 : w.heap.size + 1 < w3.heap.size := by omega
  have hnr0 : ¬ (w.heap.size + 1 + 1 + 1 + 1 = w3.heap.size) := by omega
  have hkr1 : w.heap.size + 1 + 1 + 1 < w3.heap.size := by omega
  have hnv20 : ¬ (bv = w3.heap.size) := by omega
  have hnv21 : ¬ (bv = w3.heap.size + 1) := by omega
  have hkv21 : bv < w3.heap.size + 1 := by omega
  have hnv22 : ¬ (bv = w3.heap.size + 1 + 1) := by omega
  have hkv22 : bv < w3.heap.size + 1 + 1 := by omega
  have hB := hB'; clear hB'
  have hsz := hB.size
  go_wp2_with fail
  ((with_reducible refine (told_q (subD x y c) (secT t s ct) true false true rfl (u8 (secT t s ct)) rfl _).mono ?_); rintro _ w4 ⟨rfl, hb⟩)
  have T : w4.cell? ⟨w.heap.size + 1 + 1 + 1 + 1, 0, none⟩ = some (.int .u8 0) ∧ w4.frozen? ⟨w.heap.size + 1 + 1 + 1 + 1, 0, none⟩ = false ∧ w4.cell? ⟨w.heap.size + 1 + 1 + 1 + 1, 1, none⟩ = some (.int .u8 0) ∧ w4.frozen? ⟨w.heap.size + 1 + 1 + 1 + 1, 1, none⟩ = false ∧ w4.cell? ⟨w.heap.size + 1 + 1 + 1 + 1, 2, none⟩ = some (.bool false) ∧ w4.frozen? ⟨w.heap.size + 1 + 1 + 1 + 1, 2, none⟩ = false ∧ w4.cell? ⟨w.heap.size + 1 + 1 + 1 + 1, 3, none⟩ = some (.bool false) ∧ w4.frozen? ⟨w.heap.size + 1 + 1 + 1 + 1, 3, none⟩ = false ∧ w4.cell? ⟨w.heap.size + 1 + 1 + 1 + 1, 4, none⟩ = some (.bool false) ∧ w4.frozen? ⟨w.heap.size + 1 + 1 + 1 + 1, 4, none⟩ = false ∧ w4.cell? ⟨w.heap.size + 1 + 1 + 1 + 1, 5, none⟩ = some (.bool false) ∧ w4.frozen? ⟨w.heap.size + 1 + 1 + 1 + 1, 5, none⟩ = false ∧ w4.cell? ⟨w.heap.size + 1 + 1 + 1 + 1, 6, none⟩ = some (.bool false) ∧ w4.frozen? ⟨w.heap.size + 1 + 1 + 1 + 1, 6, none⟩ = false ∧ w4.cell? ⟨w.heap.size + 1 + 1 + 1 + 1, 7, none⟩ = some (.bool false) ∧ w4.frozen? ⟨w.heap.size + 1 + 1 + 1 + 1, 7, none⟩ = false ∧ w4.cell? ⟨w.heap.size + 1 + 1 + 1 + 1, 8, none⟩ = some (.bool false) ∧ w4.frozen? ⟨w.heap.size + 1 + 1 + 1 + 1, 8, none⟩ = false ∧ w4.cell? ⟨w.heap.size + 1 + 1 + 1 + 1, 9, none⟩ = some (.bool false) ∧ w4.frozen? ⟨w.heap.size + 1 + 1 + 1 + 1, 9, none⟩ = false := by
      refine ⟨?_, ?_, ?_, ?_, ?_, ?_, ?_, ?_, ?_, ?_, ?_, ?_, ?_, ?_, ?_, ?_, ?_, ?_, ?_, ?_⟩ <;> first | (refine kc hb ?_ <;> (go_simp; first | done | rfl)) | (refine kfz hb ?_ ?_ <;> first | (go_size; done) | (go_simp; done))
  have hz := hb.size
  (try simp only [World.size_alloc, World.size_setCell, World.size_drew] at hz)
  have hlr' : w.heap.size + 1 + 1 + 1 + 1 < w4.heap.size := by omega
  have hB' : Below w.heap.size w w4 := by
      refine kb ?_ hb
      go_grown
  clear hd_0 hd_1 hr_0 fr_0 hr_1 fr_1 hr_2 fr_2 hr_3 fr_3 hr_4 fr_4 hr_5 fr_5 hr_6 fr_6 hr_7 fr_7 hr_8 fr_8 hr_9 fr_9 hv2_0 fv2_0 hv2_1 fv2_1 hv2_2 fv2_2 hv2_3 fv2_3 hv2_4 fv2_4 hld hlr hlv2 hnd0 hnd1 hkd1 hnd2 hkd2 hnr0 hkr1 hnv20 hnv21 hkv21 hnv22 hkv22 hB hsz
  clear hb hz
  obtain ⟨hr_0, fr_0, hr_1, fr_1, hr_2, fr_2, hr_3, fr_3, hr_4, fr_4, hr_5, fr_5, hr_6, fr_6, hr_7, fr_7, hr_8, fr_8, hr_9, fr_9⟩ := T
  have hlr := hlr'; clear hlr'
  have hnr0 : ¬ (w.heap.size + 1 + 1 + 1 + 1 = w4.heap.size) := by omega
  have hnr1 : ¬ (w.heap.size + 1 + 1 + 1 = w4.heap.size) := by omega
  have hkr1 : w.heap.size + 1 + 1 + 1 < w4.heap.size := by omega
  have hnr2 : ¬ (w.heap.size + 1 + 1 = w4.heap.size) := by omega
  have hkr2 : w.heap.size + 1 + 1 < w4.heap.size := by omega
  have hB := hB'; clear hB'
  have hsz := hB.size
  go_wp2
  refine bodyPost_ret (v := VS (subD x y c) (hidT (secT t s ct) (subD x y c).a true false)) (by simp [results, Try.results16, go_sem, hr_0, hr_1, hr_2, hr_3, hr_4, hr_5, hr_6, hr_7, hr_8, hr_9] <;> first | done | rfl | exact dec_eq Iff.rfl) rfl ⟨rfl, by go_grown⟩

set_option maxRecDepth 100000 in
set_option maxHeartbeats 2000000 in
theorem rSub_true_true (x t y s : BitVec 8) (c ct : Bool) (w : World) : Calls Try.prog 16 #[TB x t, TB y s, TBit c ct, TBit true true] w fun e w' =>
    e = .returned (VS (subD x y c) (hidT (secT t s ct) (subD x y c).a true true)) ∧ Below w.heap.size w w' := by
  have k1 := i64_u8
  have k2 := u8_com y
  have k3 := sec_one
  go_enter Try.func16, Try.ntmps16
  go_wp2_with fail
  refine wp_region_planA 12 11 9 #[.int .i64 0, .bool false, .bool false, .bool false, .bool false] 57 (fun w' => w'.cell? ⟨w.heap.size, 0, none⟩ = some (B8 x) ∧ w'.cell? ⟨w.heap.size, 1, none⟩ = some (B8 t) ∧ w'.cell? ⟨w.heap.size + 1, 0, none⟩ = some (B8 y) ∧ w'.cell? ⟨w.heap.size + 1, 1, none⟩ = some (B8 s) ∧ w'.cell? ⟨w.heap.size + 1 + 1, 0, none⟩ = some (.bool c) ∧ w'.cell? ⟨w.heap.size + 1 + 1, 1, none⟩ = some (.bool ct) ∧ w'.cell? ⟨w.heap.size + 1 + 1 + 1, 0, none⟩ = some (.bool true) ∧ w'.cell? ⟨w.heap.size + 1 + 1 + 1, 1, none⟩ = some (.bool true) ∧ w'.cell? ⟨w.heap.size + 1 + 1 + 1 + 1, 0, none⟩ = some (.int .u8 0) ∧ w'.frozen? ⟨w.heap.size + 1 + 1 + 1 + 1, 0, none⟩ = false ∧ w'.cell? ⟨w.heap.size + 1 + 1 + 1 + 1, 1, none⟩ = some (.int .u8 0) ∧ w'.frozen? ⟨w.heap.size + 1 + 1 + 1 + 1, 1, none⟩ = false ∧ w'.cell? ⟨w.heap.size + 1 + 1 + 1 + 1, 2, none⟩ = some (.bool false) ∧ w'.frozen? ⟨w.heap.size + 1 + 1 + 1 + 1, 2, none⟩ = false ∧ w'.cell? ⟨w.heap.size + 1 + 1 + 1 + 1, 3, none⟩ = some (.bool false) ∧ w'.frozen? ⟨w.heap.size + 1 + 1 + 1 + 1, 3, none⟩ = false ∧ w'.cell? ⟨w.heap.size + 1 + 1 + 1 + 1, 4, none⟩ = some (.bool false) ∧ w'.frozen? ⟨w.heap.size + 1 + 1 + 1 + 1, 4, none⟩ = false ∧ w'.cell? ⟨w.heap.size + 1 + 1 + 1 + 1, 5, none⟩ = some (.bool false) ∧ w'.frozen? ⟨w.heap.size + 1 + 1 + 1 + 1, 5, none⟩ = false ∧ w'.cell? ⟨w.heap.size + 1 + 1 + 1 + 1, 6, none⟩ = some (.bool false) ∧ w'.frozen? ⟨w.heap.size + 1 + 1 + 1 + 1, 6, none⟩ = false ∧ w'.cell? ⟨w.heap.size + 1 + 1 + 1 + 1, 7, none⟩ = some (.bool false) ∧ w'.frozen? ⟨w.heap.size + 1 + 1 + 1 + 1, 7, none⟩ = false ∧ w'.cell? ⟨w.heap.size + 1 + 1 + 1 + 1, 8, none⟩ = some (.bool false) ∧ w'.frozen? ⟨w.heap.size + 1 + 1 + 1 + 1, 8, none⟩ = false ∧ w'.cell? ⟨w.heap.size + 1 + 1 + 1 + 1, 9, none⟩ = some (.bool false) ∧ w'.frozen? ⟨w.heap.size + 1 + 1 + 1 + 1, 9, none⟩ = false ∧ Below w.heap.size w w') (fun bv w' => w'.cell? ⟨bv, 0, none⟩ = some (.int .i64 0) ∧ w'.frozen? ⟨bv, 0, none⟩ = false ∧ w'.cell? ⟨bv, 1, none⟩ = some (.bool false) ∧ w'.frozen? ⟨bv, 1, none⟩ = false ∧ w'.cell? ⟨bv, 2, none⟩ = some (.bool false) ∧ w'.frozen? ⟨bv, 2, none⟩ = false ∧ w'.cell? ⟨bv, 3, none⟩ = some (.bool false) ∧ w'.frozen? ⟨bv, 3, none⟩ = false ∧ w'.cell? ⟨bv, 4, none⟩ = some (.bool false) ∧ w'.frozen? ⟨bv, 4, none⟩ = false ∧ w.heap.size ≤ bv ∧ w.heap.size < bv ∧ w.heap.size + 1 < bv ∧ w.heap.size + 1 + 1 < bv ∧ w.heap.size + 1 + 1 + 1 < bv ∧ w.heap.size + 1 + 1 + 1 + 1 < bv) (by kernel_rfl) (by kernel_rfl) (by kernel_rfl) (by kernel_rfl) (by kernel_rfl) ?_ (fun W w1 hSw hb => ⟨kc hb hSw.1, kc hb hSw.2.1, kc hb hSw.2.2.1, kc hb hSw.2.2.2.1, kc hb hSw.2.2.2.2.1, kc hb hSw.2.2.2.2.2.1, kc hb hSw.2.2.2.2.2.2.1, kc hb hSw.2.2.2.2.2.2.2.1, kc hb hSw.2.2.2.2.2.2.2.2.1, kfz hb (klt hSw.2.2.2.2.2.2.2.2.1) hSw.2.2.2.2.2.2.2.2.2.1, kc hb hSw.2.2.2.2.2.2.2.2.2.2.1, kfz hb (klt hSw.2.2.2.2.2.2.2.2.2.2.1) hSw.2.2.2.2.2.2.2.2.2.2.2.1, kc hb hSw.2.2.2.2.2.2.2.2.2.2.2.2.1, kfz hb (klt hSw.2.2.2.2.2.2.2.2.2.2.2.2.1) hSw.2.2.2.2.2.2.2.2.2.2.2.2.2.1, kc hb hSw.2.2.2.2.2.2.2.2.2.2.2.2.2.2.1, kfz hb (klt hSw.2.2.2.2.2.2.2.2.2.2.2.2.2.2.1) hSw.2.2.2.2.2.2.2.2.2.2.2.2.2.2.2.1, kc hb hSw.2.2.2.2.2.2.2.2.2.2.2.2.2.2.2.2.1, kfz hb (klt hSw.2.2.2.2.2.2.2.2.2.2.2.2.2.2.2.2.1) hSw.2.2.2.2.2.2.2.2.2.2.2.2.2.2.2.2.2.1, kc hb hSw.2.2.2.2.2.2.2.2.2.2.2.2.2.2.2.2.2.2.1, kfz hb (klt hSw.2.2.2.2.2.2.2.2.2.2.2.2.2.2.2.2.2.2.1) hSw.2.2.2.2.2.2.2.2.2.2.2.2.2.2.2.2.2.2.2.1, kc hb hSw.2.2.2.2.2.2.2.2.2.2.2.2.2.2.2.2.2.2.2.2.1, kfz hb (klt hSw.2.2.2.2.2.2.2.2.2.2.2.2.2.2.2.2.2.2.2.2.1) hSw.2.2.2.2.2.2.2.2.2.2.2.2.2.2.2.2.2.2.2.2.2.1, kc hb hSw.2.2.2.2.2.2.2.2.2.2.2.2.2.2.2.2.2.2.2.2.2.2.1, kfz hb (klt hSw.2.2.2.2.2.2.2.2.2.2.2.2.2.2.2.2.2.2.2.2.2.2.1) hSw.2.2.2.2.2.2.2.2.2.2.2.2.2.2.2.2.2.2.2.2.2.2.2.1, kc hb hSw.2.2.2.2.2.2.2.2.2.2.2.2.2.2.2.2.2.2.2.2.2.2.2.2.1, kfz hb (klt hSw.2.2.2.2.2.2.2.2.2.2.2.2.2.2.2.2.2.2.2.2.2.2.2.2.1) hSw.2.2.2.2.2.2.2.2.2.2.2.2.2.2.2.2.2.2.2.2.2.2.2.2.2.1, kc hb hSw.2.2.2.2.2.2.2.2.2.2.2.2.2.2.2.2.2.2.2.2.2.2.2.2.2.2.1, kfz hb (klt hSw.2.2.2.2.2.2.2.2.2.2.2.2.2.2.2.2.2.2.2.2.2.2.2.2.2.2.1) hSw.2.2.2.2.2.2.2.2.2.2.2.2.2.2.2.2.2.2.2.2.2.2.2.2.2.2.2.1, kb hSw.2.2.2.2.2.2.2.2.2.2.2.2.2.2.2.2.2.2.2.2.2.2.2.2.2.2.2.2 hb⟩) (fun bv W w1 hEw hb => ⟨kc hb hEw.1, kfz hb (klt hEw.1) hEw.2.1, kc hb hEw.2.2.1, kfz hb (klt hEw.2.2.1) hEw.2.2.2.1, kc hb hEw.2.2.2.2.1, kfz hb (klt hEw.2.2.2.2.1) hEw.2.2.2.2.2.1, kc hb hEw.2.2.2.2.2.2.1, kfz hb (klt hEw.2.2.2.2.2.2.1) hEw.2.2.2.2.2.2.2.1, kc hb hEw.2.2.2.2.2.2.2.2.1, kfz hb (klt hEw.2.2.2.2.2.2.2.2.1) hEw.2.2.2.2.2.2.2.2.2.1, hEw.2.2.2.2.2.2.2.2.2.2⟩) ?_ ?_ ?_
  · intro a W; show (execOp _ _).run _ _ = _; first | rfl | kernel_rfl
  · intro W hSw
    have hzW := (hSw.2.2.2.2.2.2.2.2.2.2.2.2.2.2.2.2.2.2.2.2.2.2.2.2.2.2.2.2).size
    have hkW0 := klt (hSw.1)
    have hkW2 := klt (hSw.2.2.1)
    have hkW4 := klt (hSw.2.2.2.2.1)
    have hkW6 := klt (hSw.2.2.2.2.2.2.1)
    have hkW8 := klt (hSw.2.2.2.2.2.2.2.2.1)
    refine ⟨?_, ?_, ?_, ?_, ?_, ?_, ?_, ?_, ?_, ?_, ?_, ?_, ?_, ?_, ?_, ?_⟩ <;> first | (go_simp; done) | omega | (dsimp only; omega)
  · (try dsimp only)
    refine ⟨?_, ?_, ?_, ?_, ?_, ?_, ?_, ?_, ?_, ?_, ?_, ?_, ?_, ?_, ?_, ?_, ?_, ?_, ?_, ?_, ?_, ?_, ?_, ?_, ?_, ?_, ?_, ?_, ?_⟩ <;> first | (go_simp; done) | (simp [*]; done) | go_grown
  (try simp only [List.append_eq, List.cons_append, List.nil_append, List.toList_toArray, List.take_succ_cons, List.take_zero, List.drop_succ_cons, List.drop_zero])
  repeat (first
    | (refine PlanA.skip (by decide) ?_)
    | (refine PlanA.val (v := ?_) (by decide) ?_ ?_ ?_; rotate_left; (· rfl); (· (intro W hSw; (try dsimp only at hSw); go_simp; all_goals (first | (with_reducible rfl) | (constructor <;> (with_reducible rfl))))); (try simp only [Act.put, List.setIfInBounds_toArray, List.set_cons_zero, List.set_cons_succ]))
    | (refine PlanA.no (by decide) ?_ ?_; (· rfl); (try simp only [Act.put, List.setIfInBounds_toArray, List.set_cons_zero, List.set_cons_succ]))
    | (refine PlanA.call (v := ?_) (f := ?_) (args := ?_) (by decide) ?_ ?_ ?_ ?_; rotate_left 3; (· rfl); (· (intro W hSw; (try dsimp only at hSw); go_simp; all_goals (first | (with_reducible rfl) | (constructor <;> (with_reducible rfl))))); (· (intro W hSw; (try dsimp only at hSw); first | (go_at_call 33; ((with_reducible refine (one_b _ _).mono ?_); rintro _ wz ⟨rfl, hb⟩; (refine ⟨?_, hb⟩; with_reducible rfl))) | (go_at_call 32; ((with_reducible refine (binary_r _ _ _ _).mono ?_); rintro _ wz ⟨rfl, hb⟩; (refine ⟨?_, hb⟩; with_reducible rfl))) | (go_at_call 34; ((with_reducible refine (decimal_r _ _ _ _).mono ?_); rintro _ wz ⟨rfl, hb⟩; (refine ⟨?_, hb⟩; with_reducible rfl))) | (go_at_call 38; ((with_reducible refine (less_r _ _ _ _).mono ?_); rintro _ wz ⟨rfl, hb⟩; (refine ⟨?_, hb⟩; with_reducible rfl))))); (try simp only [Act.put, List.setIfInBounds_toArray, List.set_cons_zero, List.set_cons_succ])))
  refine PlanA.done ?_
  intro bv w1 T E
  (try dsimp only at T E)
  (try simp only [Act.put, List.setIfInBounds_toArray, List.set_cons_zero, List.set_cons_succ])
  obtain ⟨ha_0, ha_1, hb_0, hb_1, hc_0, hc_1, hd_0, hd_1, hr_0, fr_0, hr_1, fr_1, hr_2, fr_2, hr_3, fr_3, hr_4, fr_4, hr_5, fr_5, hr_6, fr_6, hr_7, fr_7, hr_8, fr_8, hr_9, fr_9, hB⟩ := T
  obtain ⟨hv_0, fv_0, hv_1, fv_1, hv_2, fv_2, hv_3, fv_3, hv_4, fv_4, hg_bv, hq_bv_a, hq_bv_b, hq_bv_c, hq_bv_d, hq_bv_r⟩ := E
  have hr_bv_a : ¬ w.heap.size = bv := by omega
  have hs_bv_a : ¬ bv = w.heap.size := by omega
  have hr_bv_b : ¬ w.heap.size + 1 = bv := by omega
  have hs_bv_b : ¬ bv = w.heap.size + 1 := by omega
  have hr_bv_c : ¬ w.heap.size + 1 + 1 = bv := by omega
  have hs_bv_c : ¬ bv = w.heap.size + 1 + 1 := by omega
  have hr_bv_d : ¬ w.heap.size + 1 + 1 + 1 = bv := by omega
  have hs_bv_d : ¬ bv = w.heap.size + 1 + 1 + 1 := by omega
  have hr_bv_r : ¬ w.heap.size + 1 + 1 + 1 + 1 = bv := by omega
  have hs_bv_r : ¬ bv = w.heap.size + 1 + 1 + 1 + 1 := by omega
  have hsz := hB.size
  have hla := klt ha_0
  have hlb := klt hb_0
  have hlc := klt hc_0
  have hld := klt hd_0
  have hlr := klt hr_0
  have hlv := klt hv_0
  have hna0 : ¬ (w.heap.size = w1.heap.size) := by omega
  have hna1 : ¬ (w.heap.size = w1.heap.size + 1) := by omega
  have hka1 : w.heap.size < w1.heap.size + 1 := by omega
  have hna2 : ¬ (w.heap.size = w1.heap.size + 1 + 1) := by omega
  have hka2 : w.heap.size < w1.heap.size + 1 + 1 := by omega
  have hnb0 : ¬ (w.heap.size + 1 = w1.heap.size) := by omega
  have hkb1 : w.heap.size < w1.heap.size := by omega
  have hnc0 : ¬ (w.heap.size + 1 + 1 = w1.heap.size) := by omega
  have hkc1 : w.heap.size + 1 < w1.heap.size := by omega
  have hnd0 : ¬ (w.heap.size + 1 + 1 + 1 = w1.heap.size) := by omega
  have hkd1 : w.heap.size + 1 + 1 < w1.heap.size := by omega
  have hnr0 : ¬ (w.heap.size + 1 + 1 + 1 + 1 = w1.heap.size) := by omega
  have hkr1 : w.heap.size + 1 + 1 + 1 < w1.heap.size := by omega
  have hnv0 : ¬ (bv = w1.heap.size) := by omega
  have hnv1 : ¬ (bv = w1.heap.size + 1) := by omega
  have hkv1 : bv < w1.heap.size + 1 := by omega
  have hnv2 : ¬ (bv = w1.heap.size + 1 + 1) := by omega
  have hkv2 : bv < w1.heap.size + 1 + 1 := by omega
  go_wp2_with fail
  refine wp_region_planT 10 (fun w' => w'.cell? ⟨w.heap.size, 0, none⟩ = some (B8 x) ∧ w'.cell? ⟨w.heap.size, 1, none⟩ = some (B8 t) ∧ w'.cell? ⟨w.heap.size + 1, 0, none⟩ = some (B8 y) ∧ w'.cell? ⟨w.heap.size + 1, 1, none⟩ = some (B8 s) ∧ w'.cell? ⟨w.heap.size + 1 + 1, 0, none⟩ = some (.bool c) ∧ w'.cell? ⟨w.heap.size + 1 + 1, 1, none⟩ = some (.bool ct) ∧ w'.cell? ⟨w.heap.size + 1 + 1 + 1, 0, none⟩ = some (.bool true) ∧ w'.cell? ⟨w.heap.size + 1 + 1 + 1, 1, none⟩ = some (.bool true) ∧ w'.cell? ⟨w.heap.size + 1 + 1 + 1 + 1, 0, none⟩ = some (.int .u8 0) ∧ w'.frozen? ⟨w.heap.size + 1 + 1 + 1 + 1, 0, none⟩ = false ∧ w'.cell? ⟨w.heap.size + 1 + 1 + 1 + 1, 1, none⟩ = some (.int .u8 0) ∧ w'.frozen? ⟨w.heap.size + 1 + 1 + 1 + 1, 1, none⟩ = false ∧ w'.cell? ⟨w.heap.size + 1 + 1 + 1 + 1, 2, none⟩ = some (.bool false) ∧ w'.frozen? ⟨w.heap.size + 1 + 1 + 1 + 1, 2, none⟩ = false ∧ w'.cell? ⟨w.heap.size + 1 + 1 + 1 + 1, 3, none⟩ = some (.bool false) ∧ w'.frozen? ⟨w.heap.size + 1 + 1 + 1 + 1, 3, none⟩ = false ∧ w'.cell? ⟨w.heap.size + 1 + 1 + 1 + 1, 4, none⟩ = some (.bool false) ∧ w'.frozen? ⟨w.heap.size + 1 + 1 + 1 + 1, 4, none⟩ = false ∧ w'.cell? ⟨w.heap.size + 1 + 1 + 1 + 1, 5, none⟩ = some (.bool false) ∧ w'.frozen? ⟨w.heap.size + 1 + 1 + 1 + 1, 5, none⟩ = false ∧ w'.cell? ⟨w.heap.size + 1 + 1 + 1 + 1, 6, none⟩ = some (.bool false) ∧ w'.frozen? ⟨w.heap.size + 1 + 1 + 1 + 1, 6, none⟩ = false ∧ w'.cell? ⟨w.heap.size + 1 + 1 + 1 + 1, 7, none⟩ = some (.bool false) ∧ w'.frozen? ⟨w.heap.size + 1 + 1 + 1 + 1, 7, none⟩ = false ∧ w'.cell? ⟨w.heap.size + 1 + 1 + 1 + 1, 8, none⟩ = some (.bool false) ∧ w'.frozen? ⟨w.heap.size + 1 + 1 + 1 + 1, 8, none⟩ = false ∧ w'.cell? ⟨w.heap.size + 1 + 1 + 1 + 1, 9, none⟩ = some (.bool false) ∧ w'.frozen? ⟨w.heap.size + 1 + 1 + 1 + 1, 9, none⟩ = false ∧ w'.cell? ⟨bv, 0, none⟩ = some (.int .i64 (u8 (addV x (~~~y) c).a)) ∧ w'.frozen? ⟨bv, 0, none⟩ = false ∧ w'.cell? ⟨bv, 1, none⟩ = some (.bool (addV x (~~~y) c).n) ∧ w'.frozen? ⟨bv, 1, none⟩ = false ∧ w'.cell? ⟨bv, 2, none⟩ = some (.bool (addV x (~~~y) c).v) ∧ w'.frozen? ⟨bv, 2, none⟩ = false ∧ w'.cell? ⟨bv, 3, none⟩ = some (.bool (addV x (~~~y) c).z) ∧ w'.frozen? ⟨bv, 3, none⟩ = false ∧ w'.cell? ⟨bv, 4, none⟩ = some (.bool (addV x (~~~y) c).c) ∧ w'.frozen? ⟨bv, 4, none⟩ = false ∧ Below w.heap.size w w') (by kernel_rfl) (by kernel_rfl) (by kernel_rfl) (by kernel_rfl) ?_ ?_
  · (try dsimp only)
    refine ⟨?_, ?_, ?_, ?_, ?_, ?_, ?_, ?_, ?_, ?_, ?_, ?_, ?_, ?_, ?_, ?_, ?_, ?_, ?_, ?_, ?_, ?_, ?_, ?_, ?_, ?_, ?_, ?_, ?_, ?_, ?_, ?_, ?_, ?_, ?_, ?_, ?_, ?_, ?_⟩ <;> first | (go_simp; done) | (simp [*]; done) | go_grown
  (try simp only [List.append_eq, List.cons_append, List.nil_append, List.toList_toArray, List.take_succ_cons, List.take_zero, List.drop_succ_cons, List.drop_zero])
  repeat (first
    | (refine Plan.val (v := ?_) ?_ ?_ ?_; rotate_left; (· rfl); (· (intro W hSw; (try dsimp only at hSw); go_simp; all_goals (first | (with_reducible rfl) | (constructor <;> (with_reducible rfl))))); (try simp only [Act.put, List.setIfInBounds_toArray, List.set_cons_zero, List.set_cons_succ]))
    | (refine Plan.no ?_ ?_; (· rfl); (try simp only [Act.put, List.setIfInBounds_toArray, List.set_cons_zero, List.set_cons_succ]))
    | (refine Plan.call (v := ?_) (f := ?_) (args := ?_) ?_ ?_ ?_ ?_; rotate_left 3; (· rfl); (· (intro W hSw; (try dsimp only at hSw); go_simp; all_goals (first | (with_reducible rfl) | (constructor <;> (with_reducible rfl))))); (· (intro W hSw; (try dsimp only at hSw); first | (go_at_call 33; ((with_reducible refine (one_b _ _).mono ?_); rintro _ wz ⟨rfl, hb⟩; (refine ⟨?_, ?_⟩; (· with_reducible rfl); exact ⟨kc hb hSw.1, kc hb hSw.2.1, kc hb hSw.2.2.1, kc hb hSw.2.2.2.1, kc hb hSw.2.2.2.2.1, kc hb hSw.2.2.2.2.2.1, kc hb hSw.2.2.2.2.2.2.1, kc hb hSw.2.2.2.2.2.2.2.1, kc hb hSw.2.2.2.2.2.2.2.2.1, kfz hb (klt hSw.2.2.2.2.2.2.2.2.1) hSw.2.2.2.2.2.2.2.2.2.1, kc hb hSw.2.2.2.2.2.2.2.2.2.2.1, kfz hb (klt hSw.2.2.2.2.2.2.2.2.2.2.1) hSw.2.2.2.2.2.2.2.2.2.2.2.1, kc hb hSw.2.2.2.2.2.2.2.2.2.2.2.2.1, kfz hb (klt hSw.2.2.2.2.2.2.2.2.2.2.2.2.1) hSw.2.2.2.2.2.2.2.2.2.2.2.2.2.1, kc hb hSw.2.2.2.2.2.2.2.2.2.2.2.2.2.2.1, kfz hb (klt hSw.2.2.2.2.2.2.2.2.2.2.2.2.2.2.1) hSw.2.2.2.2.2.2.2.2.2.2.2.2.2.2.2.1, kc hb hSw.2.2.2.2.2.2.2.2.2.2.2.2.2.2.2.2.1, kfz hb (klt hSw.2.2.2.2.2.2.2.2.2.2.2.2.2.2.2.2.1) hSw.2.2.2.2.2.2.2.2.2.2.2.2.2.2.2.2.2.1, kc hb hSw.2.2.2.2.2.2.2.2.2.2.2.2.2.2.2.2.2.2.1, kfz hb (klt hSw.2.2.2.2.2.2.2.2.2.2.2.2.2.2.2.2.2.2.1) hSw.2.2.2.2.2.2.2.2.2.2.2.2.2.2.2.2.2.2.2.1, kc hb hSw.2.2.2.2.2.2.2.2.2.2.2.2.2.2.2.2.2.2.2.2.1, kfz hb (klt hSw.2.2.2.2.2.2.2.2.2.2.2.2.2.2.2.2.2.2.2.2.1) hSw.2.2.2.2.2.2.2.2.2.2.2.2.2.2.2.2.2.2.2.2.2.1, kc hb hSw.2.2.2.2.2.2.2.2.2.2.2.2.2.2.2.2.2.2.2.2.2.2.1, kfz hb (klt hSw.2.2.2.2.2.2.2.2.2.2.2.2.2.2.2.2.2.2.2.2.2.2.1) hSw.2.2.2.2.2.2.2.2.2.2.2.2.2.2.2.2.2.2.2.2.2.2.2.1, kc hb hSw.2.2.2.2.2.2.2.2.2.2.2.2.2.2.2.2.2.2.2.2.2.2.2.2.1, kfz hb (klt hSw.2.2.2.2.2.2.2.2.2.2.2.2.2.2.2.2.2.2.2.2.2.2.2.2.1) hSw.2.2.2.2.2.2.2.2.2.2.2.2.2.2.2.2.2.2.2.2.2.2.2.2.2.1, kc hb hSw.2.2.2.2.2.2.2.2.2.2.2.2.2.2.2.2.2.2.2.2.2.2.2.2.2.2.1, kfz hb (klt hSw.2.2.2.2.2.2.2.2.2.2.2.2.2.2.2.2.2.2.2.2.2.2.2.2.2.2.1) hSw.2.2.2.2.2.2.2.2.2.2.2.2.2.2.2.2.2.2.2.2.2.2.2.2.2.2.2.1, kc hb hSw.2.2.2.2.2.2.2.2.2.2.2.2.2.2.2.2.2.2.2.2.2.2.2.2.2.2.2.2.1, kfz hb (klt hSw.2.2.2.2.2.2.2.2.2.2.2.2.2.2.2.2.2.2.2.2.2.2.2.2.2.2.2.2.1) hSw.2.2.2.2.2.2.2.2.2.2.2.2.2.2.2.2.2.2.2.2.2.2.2.2.2.2.2.2.2.1, kc hb hSw.2.2.2.2.2.2.2.2.2.2.2.2.2.2.2.2.2.2.2.2.2.2.2.2.2.2.2.2.2.2.1, kfz hb (klt hSw.2.2.2.2.2.2.2.2.2.2.2.2.2.2.2.2.2.2.2.2.2.2.2.2.2.2.2.2.2.2.1) hSw.2.2.2.2.2.2.2.2.2.2.2.2.2.2.2.2.2.2.2.2.2.2.2.2.2.2.2.2.2.2.2.1, kc hb hSw.2.2.2.2.2.2.2.2.2.2.2.2.2.2.2.2.2.2.2.2.2.2.2.2.2.2.2.2.2.2.2.2.1, kfz hb (klt hSw.2.2.2.2.2.2.2.2.2.2.2.2.2.2.2.2.2.2.2.2.2.2.2.2.2.2.2.2.2.2.2.2.1) hSw.2.2.2.2.2.2.2.2.2.2.2.2.2.2.2.2.2.2.2.2.2.2.2.2.2.2.2.2.2.2.2.2.2.1, kc hb hSw.2.2.2.2.2.2.2.2.2.2.2.2.2.2.2.2.2.2.2.2.2.2.2.2.2.2.2.2.2.2.2.2.2.2.1, kfz hb (klt hSw.2.2.2.2.2.2.2.2.2.2.2.2.2.2.2.2.2.2.2.2.2.2.2.2.2.2.2.2.2.2.2.2.2.2.1) hSw.2.2.2.2.2.2.2.2.2.2.2.2.2.2.2.2.2.2.2.2.2.2.2.2.2.2.2.2.2.2.2.2.2.2.2.1, kc hb hSw.2.2.2.2.2.2.2.2.2.2.2.2.2.2.2.2.2.2.2.2.2.2.2.2.2.2.2.2.2.2.2.2.2.2.2.2.1, kfz hb (klt hSw.2.2.2.2.2.2.2.2.2.2.2.2.2.2.2.2.2.2.2.2.2.2.2.2.2.2.2.2.2.2.2.2.2.2.2.2.1) hSw.2.2.2.2.2.2.2.2.2.2.2.2.2.2.2.2.2.2.2.2.2.2.2.2.2.2.2.2.2.2.2.2.2.2.2.2.2.1, kb hSw.2.2.2.2.2.2.2.2.2.2.2.2.2.2.2.2.2.2.2.2.2.2.2.2.2.2.2.2.2.2.2.2.2.2.2.2.2.2 hb⟩))) | (go_at_call 32; ((with_reducible refine (binary_r _ _ _ _).mono ?_); rintro _ wz ⟨rfl, hb⟩; (refine ⟨?_, ?_⟩; (· with_reducible rfl); exact ⟨kc hb hSw.1, kc hb hSw.2.1, kc hb hSw.2.2.1, kc hb hSw.2.2.2.1, kc hb hSw.2.2.2.2.1, kc hb hSw.2.2.2.2.2.1, kc hb hSw.2.2.2.2.2.2.1, kc hb hSw.2.2.2.2.2.2.2.1, kc hb hSw.2.2.2.2.2.2.2.2.1, kfz hb (klt hSw.2.2.2.2.2.2.2.2.1) hSw.2.2.2.2.2.2.2.2.2.1, kc hb hSw.2.2.2.2.2.2.2.2.2.2.1, kfz hb (klt hSw.2.2.2.2.2.2.2.2.2.2.1) hSw.2.2.2.2.2.2.2.2.2.2.2.1, kc hb hSw.2.2.2.2.2.2.2.2.2.2.2.2.1, kfz hb (klt hSw.2.2.2.2.2.2.2.2.2.2.2.2.1) hSw.2.2.2.2.2.2.2.2.2.2.2.2.2.1, kc hb hSw.2.2.2.2.2.2.2.2.2.2.2.2.2.2.1, kfz hb (klt hSw.2.2.2.2.2.2.2.2.2.2.2.2.2.2.1) hSw.2.2.2.2.2.2.2.2.2.2.2.2.2.2.2.1, kc hb hSw.2.2.2.2.2.2.2.2.2.2.2.2.2.2.2.2.1, kfz hb (klt hSw.2.2.2.2.2.2.2.2.2.2.2.2.2.2.2.2.1) hSw.2.2.2.2.2.2.2.2.2.2.2.2.2.2.2.2.2.1, kc hb hSw.2.2.2.2.2.2.2.2.2.2.2.2.2.2.2.2.2.2.1, kfz hb (klt hSw.2.2.2.2.2.2.2.2.2.2.2.2.2.2.2.2.2.2.1) hSw.2.2.2.2.2.2.2.2.2.2.2.2.2.2.2.2.2.2.2.1, kc hb hSw.2.2.2.2.2.2.2.2.2.2.2.2.2.2.2.2.2.2.2.2.1, kfz hb (klt hSw.2.2.2.2.2.2.2.2.2.2.2.2.2.2.2.2.2.2.2.2.1) hSw.2.2.2.2.2.2.2.2.2.2.2.2.2.2.2.2.2.2.2.2.2.1, kc hb hSw.2.2.2.2.2.2.2.2.2.2.2.2.2.2.2.2.2.2.2.2.2.2.1, kfz hb (klt hSw.2.2.2.2.2.2.2.2.2.2.2.2.2.2.2.2.2.2.2.2.2.2.1) hSw.2.2.2.2.2.2.2.2.2.2.2.2.2.2.2.2.2.2.2.2.2.2.2.1, kc hb hSw.2.2.2.2.2.2.2.2.2.2.2.2.2.2.2.2.2.2.2.2.2.2.2.2.1, kfz hb (klt hSw.2.2.2.2.2.2.2.2.2.2.2.2.2.2.2.2.2.2.2.2.2.2.2.2.1) hSw.2.2.2.2.2.2.2.2.2.2.2.2.2.2.2.2.2.2.2.2.2.2.2.2.2.1, kc hb hSw.2.2.2.2.2.2.2.2.2.2.2.2.2.2.2.2.2.2.2.2.2.2.2.2.2.2.1, kfz hb (klt hSw.2.2.2.2.2.2.2.2.2.2.2.2.2.2.2.2.2.2.2.2.2.2.2.2.2.2.1) hSw.2.2.2.2.2.2.2.2.2.2.2.2.2.2.2.2.2.2.2.2.2.2.2.2.2.2.2.1, kc hb hSw.2.2.2.2.2.2.2.2.2.2.2.2.2.2.2.2.2.2.2.2.2.2.2.2.2.2.2.2.1, kfz hb (klt hSw.2.2.2.2.2.2.2.2.2.2.2.2.2.2.2.2.2.2.2.2.2.2.2.2.2.2.2.2.1) hSw.2.2.2.2.2.2.2.2.2.2.2.2.2.2.2.2.2.2.2.2.2.2.2.2.2.2.2.2.2.1, kc hb hSw.2.2.2.2.2.2.2.2.2.2.2.2.2.2.2.2.2.2.2.2.2.2.2.2.2.2.2.2.2.2.1, kfz hb (klt hSw.2.2.2.2.2.2.2.2.2.2.2.2.2.2.2.2.2.2.2.2.2.2.2.2.2.2.2.2.2.2.1) hSw.2.2.2.2.2.2.2.2.2.2.2.2.2.2.2.2.2.2.2.2.2.2.2.2.2.2.2.2.2.2.2.1, kc hb hSw.2.2.2.2.2.2.2.2.2.2.2.2.2.2.2.2.2.2.2.2.2.2.2.2.2.2.2.2.2.2.2.2.1, kfz hb (klt hSw.2.2.2.2.2.2.2.2.2.2.2.2.2.2.2.2.2.2.2.2.2.2.2.2.2.2.2.2.2.2.2.2.1) hSw.2.2.2.2.2.2.2.2.2.2.2.2.2.2.2.2.2.2.2.2.2.2.2.2.2.2.2.2.2.2.2.2.2.1, kc hb hSw.2.2.2.2.2.2.2.2.2.2.2.2.2.2.2.2.2.2.2.2.2.2.2.2.2.2.2.2.2.2.2.2.2.2.1, kfz hb (klt hSw.2.2.2.2.2.2.2.2.2.2.2.2.2.2.2.2.2.2.2.2.2.2.2.2.2.2.2.2.2.2.2.2.2.2.1) hSw.2.2.2.2.2.2.2.2.2.2.2.2.2.2.2.2.2.2.2.2.2.2.2.2.2.2.2.2.2.2.2.2.2.2.2.1, kc hb hSw.2.2.2.2.2.2.2.2.2.2.2.2.2.2.2.2.2.2.2.2.2.2.2.2.2.2.2.2.2.2.2.2.2.2.2.2.1, kfz hb (klt hSw.2.2.2.2.2.2.2.2.2.2.2.2.2.2.2.2.2.2.2.2.2.2.2.2.2.2.2.2.2.2.2.2.2.2.2.2.1) hSw.2.2.2.2.2.2.2.2.2.2.2.2.2.2.2.2.2.2.2.2.2.2.2.2.2.2.2.2.2.2.2.2.2.2.2.2.2.1, kb hSw.2.2.2.2.2.2.2.2.2.2.2.2.2.2.2.2.2.2.2.2.2.2.2.2.2.2.2.2.2.2.2.2.2.2.2.2.2.2 hb⟩))) | (go_at_call 34; ((with_reducible refine (decimal_r _ _ _ _).mono ?_); rintro _ wz ⟨rfl, hb⟩; (refine ⟨?_, ?_⟩; (· with_reducible rfl); exact ⟨kc hb hSw.1, kc hb hSw.2.1, kc hb hSw.2.2.1, kc hb hSw.2.2.2.1, kc hb hSw.2.2.2.2.1, kc hb hSw.2.2.2.2.2.1, kc hb hSw.2.2.2.2.2.2.1, kc hb hSw.2.2.2.2.2.2.2.1, kc hb hSw.2.2.2.2.2.2.2.2.1, kfz hb (klt hSw.2.2.2.2.2.2.2.2.1) hSw.2.2.2.2.2.2.2.2.2.1, kc hb hSw.2.2.2.2.2.2.2.2.2.2.1, kfz hb (klt hSw.2.2.2.2.2.2.2.2.2.2.1) hSw.2.2.2.2.2.2.2.2.2.2.2.1, kc hb hSw.2.2.2.2.2.2.2.2.2.2.2.2.1, kfz hb (klt hSw.2.2.2.2.2.2.2.2.2.2.2.2.1) hSw.2.2.2.2.2.2.2.2.2.2.2.2.2.1, kc hb hSw.2.2.2.2.2.2.2.2.2.2.2.2.2.2.1, kfz hb (klt hSw.2.2.2.2.2.2.2.2.2.2.2.2.2.2.1) hSw.2.2.2.2.2.2.2.2.2.2.2.2.2.2.2.1, kc hb hSw.2.2.2.2.2.2.2.2.2.2.2.2.2.2.2.2.1, kfz hb (klt hSw.2.2.2.2.2.2.2.2.2.2.2.2.2.2.2.2.1) hSw.2.2.2.2.2.2.2.2.2.2.2.2.2.2.2.2.2.1, kc hb hSw.2.2.2.2.2.2.2.2.2.2.2.2.2.2.2.2.2.2.1, kfz hb (klt hSw.2.2.2.2.2.2.2.2.2.2.2.2.2.2.2.2.2.2.1) hSw.2.2.2.2.2.2.2.2.2.2.2.2.2.2.2.2.2.2.2.1, kc hb hSw.2.2.2.2.2.2.2.2.2.2.2.2.2.2.2.2.2.2.2.2.1, kfz hb (klt hSw.2.2.2.2.2.2.2.2.2.2.2.2.2.2.2.2.2.2.2.2.1) hSw.2.2.2.2.2.2.2.2.2.2.2.2.2.2.2.2.2.2.2.2.2.1, kc hb hSw.2.2.2.2.2.2.2.2.2.2.2.2.2.2.2.2.2.2.2.2.2.2.1, kfz hb (klt hSw.2.2.2.2.2.2.2.2.2.2.2.2.2.2.2.2.2.2.2.2.2.2.1) hSw.2.2.2.2.2.2.2.2.2.2.2.2.2.2.2.2.2.2.2.2.2.2.2.1, kc hb hSw.2.2.2.2.2.2.2.2.2.2.2.2.2.2.2.2.2.2.2.2.2.2.2.2.1, kfz hb (klt hSw.2.2.2.2.2.2.2.2.2.2.2.2.2.2.2.2.2.2.2.2.2.2.2.2.1) hSw.2.2.2.2.2.2.2.2.2.2.2.2.2.2.2.2.2.2.2.2.2.2.2.2.2.1, kc hb hSw.2.2.2.2.2.2.2.2.2.2.2.2.2.2.2.2.2.2.2.2.2.2.2.2.2.2.1, kfz hb (klt hSw.2.2.2.2.2.2.2.2.2.2.2.2.2.2.2.2.2.2.2.2.2.2.2.2.2.2.1) hSw.2.2.2.2.2.2.2.2.2.2.2.2.2.2.2.2.2.2.2.2.2.2.2.2.2.2.2.1, kc hb hSw.2.2.2.2.2.2.2.2.2.2.2.2.2.2.2.2.2.2.2.2.2.2.2.2.2.2.2.2.1, kfz hb (klt hSw.2.2.2.2.2.2.2.2.2.2.2.2.2.2.2.2.2.2.2.2.2.2.2.2.2.2.2.2.1) hSw.2.2.2.2.2.2.2.2.2.2.2.2.2.2.2.2.2.2.2.2.2.2.2.2.2.2.2.2.2.1, kc hb hSw.2.2.2.2.2.2.2.2.2.2.2.2.2.2.2.2.2.2.2.2.2.2.2.2.2.2.2.2.2.2.1, kfz hb (klt hSw.2.2.2.2.2.2.2.2.2.2.2.2.2.2.2.2.2.2.2.2.2.2.2.2.2.2.2.2.2.2.1) hSw.2.2.2.2.2.2.2.2.2.2.2.2.2.2.2.2.2.2.2.2.2.2.2.2.2.2.2.2.2.2.2.1, kc hb hSw.2.2.2.2.2.2.2.2.2.2.2.2.2.2.2.2.2.2.2.2.2.2.2.2.2.2.2.2.2.2.2.2.1, kfz hb (klt hSw.2.2.2.2.2.2.2.2.2.2.2.2.2.2.2.2.2.2.2.2.2.2.2.2.2.2.2.2.2.2.2.2.1) hSw.2.2.2.2.2.2.2.2.2.2.2.2.2.2.2.2.2.2.2.2.2.2.2.2.2.2.2.2.2.2.2.2.2.1, kc hb hSw.2.2.2.2.2.2.2.2.2.2.2.2.2.2.2.2.2.2.2.2.2.2.2.2.2.2.2.2.2.2.2.2.2.2.1, kfz hb (klt hSw.2.2.2.2.2.2.2.2.2.2.2.2.2.2.2.2.2.2.2.2.2.2.2.2.2.2.2.2.2.2.2.2.2.2.1) hSw.2.2.2.2.2.2.2.2.2.2.2.2.2.2.2.2.2.2.2.2.2.2.2.2.2.2.2.2.2.2.2.2.2.2.2.1, kc hb hSw.2.2.2.2.2.2.2.2.2.2.2.2.2.2.2.2.2.2.2.2.2.2.2.2.2.2.2.2.2.2.2.2.2.2.2.2.1, kfz hb (klt hSw.2.2.2.2.2.2.2.2.2.2.2.2.2.2.2.2.2.2.2.2.2.2.2.2.2.2.2.2.2.2.2.2.2.2.2.2.1) hSw.2.2.2.2.2.2.2.2.2.2.2.2.2.2.2.2.2.2.2.2.2.2.2.2.2.2.2.2.2.2.2.2.2.2.2.2.2.1, kb hSw.2.2.2.2.2.2.2.2.2.2.2.2.2.2.2.2.2.2.2.2.2.2.2.2.2.2.2.2.2.2.2.2.2.2.2.2.2.2 hb⟩))) | (go_at_call 38; ((with_reducible refine (less_r _ _ _ _).mono ?_); rintro _ wz ⟨rfl, hb⟩; (refine ⟨?_, ?_⟩; (· with_reducible rfl); exact ⟨kc hb hSw.1, kc hb hSw.2.1, kc hb hSw.2.2.1, kc hb hSw.2.2.2.1, kc hb hSw.2.2.2.2.1, kc hb hSw.2.2.2.2.2.1, kc hb hSw.2.2.2.2.2.2.1, kc hb hSw.2.2.2.2.2.2.2.1, kc hb hSw.2.2.2.2.2.2.2.2.1, kfz hb (klt hSw.2.2.2.2.2.2.2.2.1) hSw.2.2.2.2.2.2.2.2.2.1, kc hb hSw.2.2.2.2.2.2.2.2.2.2.1, kfz hb (klt hSw.2.2.2.2.2.2.2.2.2.2.1) hSw.2.2.2.2.2.2.2.2.2.2.2.1, kc hb hSw.2.2.2.2.2.2.2.2.2.2.2.2.1, kfz hb (klt hSw.2.2.2.2.2.2.2.2.2.2.2.2.1) hSw.2.2.2.2.2.2.2.2.2.2.2.2.2.1, kc hb hSw.2.2.2.2.2.2.2.2.2.2.2.2.2.2.1, kfz hb (klt hSw.2.2.2.2.2.2.2.2.2.2.2.2.2.2.1) hSw.2.2.2.2.2.2.2.2.2.2.2.2.2.2.2.1, kc hb hSw.2.2.2.2.2.2.2.2.2.2.2.2.2.2.2.2.1, kfz hb (klt hSw.2.2.2.2.2.2.2.2.2.2.2.2.2.2.2.2.1) hSw.2.2.2.2.2.2.2.2.2.2.2.2.2.2.2.2.2.1, kc hb hSw.2.2.2.2.2.2.2.2.2.2.2.2.2.2.2.2.2.2.1, kfz hb (klt hSw.2.2.2.2.2.2.2.2.2.2.2.2.2.2.2.2.2.2.1) hSw.2.2.2.2.2.2.2.2.2.2.2.2.2.2.2.2.2.2.2.1, kc hb hSw.2.2.2.2.2.2.2.2.2.2.2.2.2.2.2.2.2.2.2.2.1, kfz hb (klt hSw.2.2.2.2.2.2.2.2.2.2.2.2.2.2.2.2.2.2.2.2.1) hSw.2.2.2.2.2.2.2.2.2.2.2.2.2.2.2.2.2.2.2.2.2.1, kc hb hSw.2.2.2.2.2.2.2.2.2.2.2.2.2.2.2.2.2.2.2.2.2.2.1, kfz hb (klt hSw.2.2.2.2.2.2.2.2.2.2.2.2.2.2.2.2.2.2.2.2.2.2.1) hSw.2.2.2.2.2.2.2.2.2.2.2.2.2.2.2.2.2.2.2.2.2.2.2.1, kc hb hSw.2.2.2.2.2.2.2.2.2.2.2.2.2.2.2.2.2.2.2.2.2.2.2.2.1, kfz hb (klt hSw.2.2.2.2.2.2.2.2.2.2.2.2.2.2.2.2.2.2.2.2.2.2.2.2.1) hSw.2.2.2.2.2.2.2.2.2.2.2.2.2.2.2.2.2.2.2.2.2.2.2.2.2.1, kc hb hSw.2.2.2.2.2.2.2.2.2.2.2.2.2.2.2.2.2.2.2.2.2.2.2.2.2.2.1, kfz hb (klt hSw.2.2.2.2.2.2.2.2.2.2.2.2.2.2.2.2.2.2.2.2.2.2.2.2.2.2.1) hSw.2.2.2.2.2.2.2.2.2.2.2.2.2.2.2.2.2.2.2.2.2.2.2.2.2.2.2.1, kc hb hSw.2.2.2.2.2.2.2.2.2.2.2.2.2.2.2.2.2.2.2.2.2.2.2.2.2.2.2.2.1, kfz hb (klt hSw.2.2.2.2.2.2.2.2.2.2.2.2.2.2.2.2.2.2.2.2.2.2.2.2.2.2.2.2.1) hSw.2.2.2.2.2.2.2.2.2.2.2.2.2.2.2.2.2.2.2.2.2.2.2.2.2.2.2.2.2.1, kc hb hSw.2.2.2.2.2.2.2.2.2.2.2.2.2.2.2.2.2.2.2.2.2.2.2.2.2.2.2.2.2.2.1, kfz hb (klt hSw.2.2.2.2.2.2.2.2.2.2.2.2.2.2.2.2.2.2.2.2.2.2.2.2.2.2.2.2.2.2.1) hSw.2.2.2.2.2.2.2.2.2.2.2.2.2.2.2.2.2.2.2.2.2.2.2.2.2.2.2.2.2.2.2.1, kc hb hSw.2.2.2.2.2.2.2.2.2.2.2.2.2.2.2.2.2.2.2.2.2.2.2.2.2.2.2.2.2.2.2.2.1, kfz hb (klt hSw.2.2.2.2.2.2.2.2.2.2.2.2.2.2.2.2.2.2.2.2.2.2.2.2.2.2.2.2.2.2.2.2.1) hSw.2.2.2.2.2.2.2.2.2.2.2.2.2.2.2.2.2.2.2.2.2.2.2.2.2.2.2.2.2.2.2.2.2.1, kc hb hSw.2.2.2.2.2.2.2.2.2.2.2.2.2.2.2.2.2.2.2.2.2.2.2.2.2.2.2.2.2.2.2.2.2.2.1, kfz hb (klt hSw.2.2.2.2.2.2.2.2.2.2.2.2.2.2.2.2.2.2.2.2.2.2.2.2.2.2.2.2.2.2.2.2.2.2.1) hSw.2.2.2.2.2.2.2.2.2.2.2.2.2.2.2.2.2.2.2.2.2.2.2.2.2.2.2.2.2.2.2.2.2.2.2.1, kc hb hSw.2.2.2.2.2.2.2.2.2.2.2.2.2.2.2.2.2.2.2.2.2.2.2.2.2.2.2.2.2.2.2.2.2.2.2.2.1, kfz hb (klt hSw.2.2.2.2.2.2.2.2.2.2.2.2.2.2.2.2.2.2.2.2.2.2.2.2.2.2.2.2.2.2.2.2.2.2.2.2.1) hSw.2.2.2.2.2.2.2.2.2.2.2.2.2.2.2.2.2.2.2.2.2.2.2.2.2.2.2.2.2.2.2.2.2.2.2.2.2.1, kb hSw.2.2.2.2.2.2.2.2.2.2.2.2.2.2.2.2.2.2.2.2.2.2.2.2.2.2.2.2.2.2.2.2.2.2.2.2.2.2 hb⟩))))); (try simp only [Act.put, List.setIfInBounds_toArray, List.set_cons_zero, List.set_cons_succ])))
  refine Plan.done ?_
  intro w2 T
  (try dsimp only at T)
  clear ha_0 ha_1 hb_0 hb_1 hc_0 hc_1 hd_0 hd_1 hr_0 fr_0 hr_1 fr_1 hr_2 fr_2 hr_3 fr_3 hr_4 fr_4 hr_5 fr_5 hr_6 fr_6 hr_7 fr_7 hr_8 fr_8 hr_9 fr_9 hv_0 fv_0 hv_1 fv_1 hv_2 fv_2 hv_3 fv_3 hv_4 fv_4 hB hsz hla hlb hlc hld hlr hlv hna0 hna1 hka1 hna2 hka2 hnb0 hkb1 hnc0 hkc1 hnd0 hkd1 hnr0 hkr1 hnv0 hnv1 hkv1 hnv2 hkv2
  obtain ⟨ha_0, ha_1, hb_0, hb_1, hc_0, hc_1, hd_0, hd_1, hr_0, fr_0, hr_1, fr_1, hr_2, fr_2, hr_3, fr_3, hr_4, fr_4, hr_5, fr_5, hr_6, fr_6, hr_7, fr_7, hr_8, fr_8, hr_9, fr_9, hv1_0, fv1_0, hv1_1, fv1_1, hv1_2, fv1_2, hv1_3, fv1_3, hv1_4, fv1_4, hB⟩ := T
  have hsz := hB.size
  have hla := klt ha_0
  have hlb := klt hb_0
  have hlc := klt hc_0
  have hld := klt hd_0
  have hlr := klt hr_0
  have hlv1 := klt hv1_0
  have hna0 : ¬ (w.heap.size = w2.heap.size) := by omega
  have hna1 : ¬ (w.heap.size = w2.heap.size + 1) := by omega
  have hka1 : w.heap.size < w2.heap.size + 1 := by omega
  have hna2 : ¬ (w.heap.size = w2.heap.size + 1 + 1) := by omega
  have hka2 : w.heap.size < w2.heap.size + 1 + 1 := by omega
  have hnb0 : ¬ (w.heap.size + 1 = w2.heap.size) := by omega
  have hkb1 : w.heap.size < w2.heap.size := by omega
  have hnc0 : ¬ (w.heap.size + 1 + 1 = w2.heap.size) := by omega
  have hkc1 : w.heap.size + 1 < w2.heap.size := by omega
  have hnd0 : ¬ (w.heap.size + 1 + 1 + 1 = w2.heap.size) := by omega
  have hkd1 : w.heap.size + 1 + 1 < w2.heap.size := by omega
  have hnr0 : ¬ (w.heap.size + 1 + 1 + 1 + 1 = w2.heap.size) := by omega
  have hkr1 : w.heap.size + 1 + 1 + 1 < w2.heap.size := by omega
  have hnv10 : ¬ (bv = w2.heap.size) := by omega
  have hnv11 : ¬ (bv = w2.heap.size + 1) := by omega
  have hkv11 : bv < w2.heap.size + 1 := by omega
  have hnv12 : ¬ (bv = w2.heap.size + 1 + 1) := by omega
  have hkv12 : bv < w2.heap.size + 1 + 1 := by omega
  go_wp2_with fail
  ((with_reducible refine (secret_r _ _ _ _ _ _ _).mono ?_); rintro _ w3 ⟨rfl, hb⟩)
  have T : w3.cell? ⟨w.heap.size + 1 + 1 + 1, 0, none⟩ = some (.bool true) ∧ w3.cell? ⟨w.heap.size + 1 + 1 + 1, 1, none⟩ = some (.bool true) ∧ w3.cell? ⟨w.heap.size + 1 + 1 + 1 + 1, 0, none⟩ = some (.int .u8 0) ∧ w3.frozen? ⟨w.heap.size + 1 + 1 + 1 + 1, 0, none⟩ = false ∧ w3.cell? ⟨w.heap.size + 1 + 1 + 1 + 1, 1, none⟩ = some (.int .u8 0) ∧ w3.frozen? ⟨w.heap.size + 1 + 1 + 1 + 1, 1, none⟩ = false ∧ w3.cell? ⟨w.heap.size + 1 + 1 + 1 + 1, 2, none⟩ = some (.bool false) ∧ w3.frozen? ⟨w.heap.size + 1 + 1 + 1 + 1, 2, none⟩ = false ∧ w3.cell? ⟨w.heap.size + 1 + 1 + 1 + 1, 3, none⟩ = some (.bool false) ∧ w3.frozen? ⟨w.heap.size + 1 + 1 + 1 + 1, 3, none⟩ = false ∧ w3.cell? ⟨w.heap.size + 1 + 1 + 1 + 1, 4, none⟩ = some (.bool false) ∧ w3.frozen? ⟨w.heap.size + 1 + 1 + 1 + 1, 4, none⟩ = false ∧ w3.cell? ⟨w.heap.size + 1 + 1 + 1 + 1, 5, none⟩ = some (.bool false) ∧ w3.frozen? ⟨w.heap.size + 1 + 1 + 1 + 1, 5, none⟩ = false ∧ w3.cell? ⟨w.heap.size + 1 + 1 + 1 + 1, 6, none⟩ = some (.bool false) ∧ w3.frozen? ⟨w.heap.size + 1 + 1 + 1 + 1, 6, none⟩ = false ∧ w3.cell? ⟨w.heap.size + 1 + 1 + 1 + 1, 7, none⟩ = some (.bool false) ∧ w3.frozen? ⟨w.heap.size + 1 + 1 + 1 + 1, 7, none⟩ = false ∧ w3.cell? ⟨w.heap.size + 1 + 1 + 1 + 1, 8, none⟩ = some (.bool false) ∧ w3.frozen? ⟨w.heap.size + 1 + 1 + 1 + 1, 8, none⟩ = false ∧ w3.cell? ⟨w.heap.size + 1 + 1 + 1 + 1, 9, none⟩ = some (.bool false) ∧ w3.frozen? ⟨w.heap.size + 1 + 1 + 1 + 1, 9, none⟩ = false ∧ w3.cell? ⟨bv, 0, none⟩ = some (.int .i64 (u8 (subD x y c).a)) ∧ w3.frozen? ⟨bv, 0, none⟩ = false ∧ w3.cell? ⟨bv, 1, none⟩ = some (.bool (subD x y c).n) ∧ w3.frozen? ⟨bv, 1, none⟩ = false ∧ w3.cell? ⟨bv, 2, none⟩ = some (.bool (subD x y c).v) ∧ w3.frozen? ⟨bv, 2, none⟩ = false ∧ w3.cell? ⟨bv, 3, none⟩ = some (.bool (subD x y c).z) ∧ w3.frozen? ⟨bv, 3, none⟩ = false ∧ w3.cell? ⟨bv, 4, none⟩ = some (.bool (subD x y c).c) ∧ w3.frozen? ⟨bv, 4, none⟩ = false := by
      refine ⟨?_, ?_, ?_, ?_, ?_, ?_, ?_, ?_, ?_, ?_, ?_, ?_, ?_, ?_, ?_, ?_, ?_, ?_, ?_, ?_, ?_, ?_, ?_, ?_, ?_, ?_, ?_, ?_, ?_, ?_, ?_, ?_⟩ <;> first | (refine kc hb ?_ <;> (go_simp; first | done | rfl)) | (refine kfz hb ?_ ?_ <;> first | (go_size; done) | (go_simp; done))
  have hz := hb.size
  (try simp only [World.size_alloc, World.size_setCell, World.size_drew] at hz)
  have hld' : w.heap.size + 1 + 1 + 1 < w3.heap.size := by omega
  have hlr' : w.heap.size + 1 + 1 + 1 + 1 < w3.heap.size := by omega
  have hlv2' : bv < w3.heap.size := by omega
  have hB' : Below w.heap.size w w3 := by
      refine kb ?_ hb
      go_grown
  clear ha_0 ha_1 hb_0 hb_1 hc_0 hc_1 hd_0 hd_1 hr_0 fr_0 hr_1 fr_1 hr_2 fr_2 hr_3 fr_3 hr_4 fr_4 hr_5 fr_5 hr_6 fr_6 hr_7 fr_7 hr_8 fr_8 hr_9 fr_9 hv1_0 fv1_0 hv1_1 fv1_1 hv1_2 fv1_2 hv1_3 fv1_3 hv1_4 fv1_4 hB hsz hla hlb hlc hld hlr hlv1 hna0 hna1 hka1 hna2 hka2 hnb0 hkb1 hnc0 hkc1 hnd0 hkd1 hnr0 hkr1 hnv10 hnv11 hkv11 hnv12 hkv12
  clear hb hz
  obtain ⟨hd_0, hd_1, hr_0, fr_0, hr_1, fr_1, hr_2, fr_2, hr_3, fr_3, hr_4, fr_4, hr_5, fr_5, hr_6, fr_6, hr_7, fr_7, hr_8, fr_8, hr_9, fr_9, hv2_0, fv2_0, hv2_1, fv2_1, hv2_2, fv2_2, hv2_3, fv2_3, hv2_4, fv2_4⟩ := T
  have hld := hld'; clear hld'
  have hlr := hlr'; clear hlr'
  have hlv2 := hlv2'; clear hlv2'
  have hnd0 : ¬ (w.heap.size + 1 + 1 + 1 = w3.heap.size) := by omega
  have hnd1 : ¬ (w.heap.size + 1 + 1 = w3.heap.size) := by omega
  have hkd1 : w.heap.size + 1 + 1 < w3.heap.size := by omega
  have hnd2 : ¬ (w.heap.size + 1 = w3.heap.size) := by omega
  have hkd2 : w.heap.size + 1 < w3.heap.size := by omega
  have hnr0 : ¬ (w.heap.size + 1 + 1 + 1 + 1 = w3.heap.size) := by omega
  have hkr1 : w.heap.size + 1 + 1 + 1 < w3.heap.size := by omega
  have hnv20 : ¬ (bv = w3.heap.size) := by omega
  have hnv21 : ¬ (bv = w3.heap.size + 1) := by omega
  have hkv21 : bv < w3.heap.size + 1 := by omega
  have hnv22 : ¬ (bv = w3.heap.size + 1 + 1) := by omega
  have hkv22 : bv < w3.heap.size + 1 + 1 := by omega
  have hB := hB'; clear hB'
  have hsz := hB.size
  go_wp2_with fail
  ((with_reducible refine (told_q (subD x y c) (secT t s ct) true true true rfl (u8 (secT t s ct ||| 1#8)) rfl _).mono ?_); rintro _ w4 ⟨rfl, hb⟩)
  have T : w4.cell? ⟨w.heap.size + 1 + 1 + 1 + 1, 0, none⟩ = some (.int .u8 0) ∧ w4.frozen? ⟨w.heap.size + 1 + 1 + 1 + 1, 0, none⟩ = false ∧ w4.cell? ⟨w.heap.size + 1 + 1 + 1 + 1, 1, none⟩ = some (.int .u8 0) ∧ w4.frozen? ⟨w.heap.size + 1 + 1 + 1 + 1, 1, none⟩ = false ∧ w4.cell? ⟨w.heap.size + 1 + 1 + 1 + 1, 2, none⟩ = some (.bool false) ∧ w4.frozen? ⟨w.heap.size + 1 + 1 + 1 + 1, 2, none⟩ = false ∧ w4.cell? ⟨w.heap.size + 1 + 1 + 1 + 1, 3, none⟩ = some (.bool false) ∧ w4.frozen? ⟨w.heap.size + 1 + 1 + 1 + 1, 3, none⟩ = false ∧ w4.cell? ⟨w.heap.size + 1 + 1 + 1 + 1, 4, none⟩ = some (.bool false) ∧ w4.frozen? ⟨w.heap.size + 1 + 1 + 1 + 1, 4, none⟩ = false ∧ w4.cell? ⟨w.heap.size + 1 + 1 + 1 + 1, 5, none⟩ = some (.bool false) ∧ w4.frozen? ⟨w.heap.size + 1 + 1 + 1 + 1, 5, none⟩ = false ∧ w4.cell? ⟨w.heap.size + 1 + 1 + 1 + 1, 6, none⟩ = some (.bool false) ∧ w4.frozen? ⟨w.heap.size + 1 + 1 + 1 + 1, 6, none⟩ = false ∧ w4.cell? ⟨w.heap.size + 1 + 1 + 1 + 1, 7, none⟩ = some (.bool false) ∧ w4.frozen? ⟨w.heap.size + 1 + 1 + 1 + 1, 7, none⟩ = false ∧ w4.cell? ⟨w.heap.size + 1 + 1 + 1 + 1, 8, none⟩ = some (.bool false) ∧ w4.frozen? ⟨w.heap.size + 1 + 1 + 1 + 1, 8, none⟩ = false ∧ w4.cell? ⟨w.heap.size + 1 + 1 + 1 + 1, 9, none⟩ = some (.bool false) ∧ w4.frozen? ⟨w.heap.size + 1 + 1 + 1 + 1, 9, none⟩ = false := by
      refine ⟨?_, ?_, ?_, ?_, ?_, ?_, ?_, ?_, ?_, ?_, ?_, ?_, ?_, ?_, ?_, ?_, ?_, ?_, ?_, ?_⟩ <;> first | (refine kc hb ?_ <;> (go_simp; first | done | rfl)) | (refine kfz hb ?_ ?_ <;> first | (go_size; done) | (go_simp; done))
  have hz := hb.size
  (try simp only [World.size_alloc, World.size_setCell, World.size_drew] at hz)
  have hlr' : w.heap.size + 1 + 1 + 1 + 1 < w4.heap.size := by omega
  have hB' : Below w.heap.size w w4 := by
      refine kb ?_ hb
      go_grown
  clear hd_0 hd_1 hr_0 fr_0 hr_1 fr_1 hr_2 fr_2 hr_3 fr_3 hr_4 fr_4 hr_5 fr_5 hr_6 fr_6 hr_7 fr_7 hr_8 fr_8 hr_9 fr_9 hv2_0 fv2_0 hv2_1 fv2_1 hv2_2 fv2_2 hv2_3 fv2_3 hv2_4 fv2_4 hld hlr hlv2 hnd0 hnd1 hkd1 hnd2 hkd2 hnr0 hkr1 hnv20 hnv21 hkv21 hnv22 hkv22 hB hsz
  clear hb hz
  obtain ⟨hr_0, fr_0, hr_1, fr_1, hr_2, fr_2, hr_3, fr_3, hr_4, fr_4, hr_5, fr_5, hr_6, fr_6, hr_7, fr_7, hr_8, fr_8, hr_9, fr_9⟩ := T
  have hlr := hlr'; clear hlr'
  have hnr0 : ¬ (w.heap.size + 1 + 1 + 1 + 1 = w4.heap.size) := by omega
  have hnr1 : ¬ (w.heap.size + 1 + 1 + 1 = w4.heap.size) := by omega
  have hkr1 : w.heap.size + 1 + 1 + 1 < w4.heap.size := by omega
  have hnr2 : ¬ (w.heap.size + 1 + 1 = w4.heap.size) := by omega
  have hkr2 : w.heap.size + 1 + 1 < w4.heap.size := by omega
  have hB := hB'; clear hB'
  have hsz := hB.size
  go_wp2
  refine bodyPost_ret (v := VS (subD x y c) (hidT (secT t s ct) (subD x y c).a true true)) (by simp [results, Try.results16, go_sem, hr_0, hr_1, hr_2, hr_3, hr_4, hr_5, hr_6, hr_7, hr_8, hr_9] <;> first | done | rfl | exact dec_eq Iff.rfl) rfl ⟨rfl, by go_grown⟩

theorem rsub_n (x t y s : BitVec 8) (c ct d dt : Bool) (w : World) : Calls Try.prog 16 #[TB x t, TB y s, TBit c ct, TBit d dt] w fun e w' => e = .returned (subS x t y s c ct d dt) ∧ Below w.heap.size w w' := by
  cases d <;> cases dt
  · exact rSub_false_false x t y s c ct w
  · exact rSub_false_true x t y s c ct w
  · exact rSub_true_false x t y s c ct w
  · exact rSub_true_true x t y s c ct w
end Go.Proofs.Ytdmgdldadpkhgaa
