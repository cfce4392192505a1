/-
  What the document's told comes to.
-/
import Derived.Test.YtdmgdldadpkhgaaRs2
import Derived.Test.YtdmgdldadpkhgaaPlanA
set_option linter.unusedSimpArgs false
set_option linter.unusedVariables false
namespace Go.Proofs.Ytdmgdldadpkhgaa
open Go.RowKit

theorem u8_wrap (x : BitVec 8) : IntKind.u8.wrap (u8 x) = u8 x := by
  have := u8_lo x; have := u8_hi x; rw [IntKind.wrap_u8']; omega
theorem top_bit (x : BitVec 8) : decide (128 ≤ u8 x) = bitAt x 7 := by
  have : ∀ x : BitVec 8, decide (128 ≤ u8 x) = bitAt x 7 := by decide +kernel
  exact this x
theorem spread_b (z : BitVec 8) (w : World) : Calls Try.prog 41 #[.int .i64 (u8 z)] w fun e w' => e = .returned (.int .i64 (u8 (spr z))) ∧ Below w.heap.size w w' :=
  (spread_r z w).mono fun _ _ ⟨h1, h2⟩ => ⟨h1, by subst h2; exact Below.refl _ _⟩
set_option maxRecDepth 100000 in
set_option maxHeartbeats 2000000 in
theorem told_f (s : SV) (z : BitVec 8) (NZ : Bool) (eN : decide (0 < u8 z) = NZ) (w : World) : Calls Try.prog 36 #[RV s, .int .i64 (u8 z), .bool false] w fun e w' =>
    e = .returned (VS s ⟨spr z, bitAt (spr z) 7, NZ, zT s.a (spr z), NZ⟩) ∧ Below w.heap.size w w' := by
  have k1 := i64_u8
  have k2 := u8_wrap
  have k3 := top_bit
  have z1 := u8_lo z
  have z2 := u8_hi z
  have y1 := u8_lo (spr z)
  have y2 := u8_hi (spr z)
  have v0 : u8 0#8 = 0 := rfl
  have v1 : u8 255#8 = 255 := rfl
  go_enter Try.func36, Try.ntmps36
  go_wp2_with fail
  refine wp_region_planA 8 7 7 #[.int .u8 0, .int .u8 0] 23 (fun w' => w'.cell? ⟨w.heap.size, 0, none⟩ = some (.int .i64 (u8 s.a)) ∧ w'.cell? ⟨w.heap.size, 1, none⟩ = some (.bool s.n) ∧ w'.cell? ⟨w.heap.size, 2, none⟩ = some (.bool s.v) ∧ w'.cell? ⟨w.heap.size, 3, none⟩ = some (.bool s.z) ∧ w'.cell? ⟨w.heap.size, 4, none⟩ = some (.bool s.c) ∧ w'.cell? ⟨w.heap.size + 1, 0, none⟩ = some (.int .u8 0) ∧ w'.frozen? ⟨w.heap.size + 1, 0, none⟩ = false ∧ w'.cell? ⟨w.heap.size + 1, 1, none⟩ = some (.int .u8 0) ∧ w'.frozen? ⟨w.heap.size + 1, 1, none⟩ = false ∧ w'.cell? ⟨w.heap.size + 1, 2, none⟩ = some (.bool false) ∧ w'.frozen? ⟨w.heap.size + 1, 2, none⟩ = false ∧ w'.cell? ⟨w.heap.size + 1, 3, none⟩ = some (.bool false) ∧ w'.frozen? ⟨w.heap.size + 1, 3, none⟩ = false ∧ w'.cell? ⟨w.heap.size + 1, 4, none⟩ = some (.bool false) ∧ w'.frozen? ⟨w.heap.size + 1, 4, none⟩ = false ∧ w'.cell? ⟨w.heap.size + 1, 5, none⟩ = some (.bool false) ∧ w'.frozen? ⟨w.heap.size + 1, 5, none⟩ = false ∧ w'.cell? ⟨w.heap.size + 1, 6, none⟩ = some (.bool false) ∧ w'.frozen? ⟨w.heap.size + 1, 6, none⟩ = false ∧ w'.cell? ⟨w.heap.size + 1, 7, none⟩ = some (.bool false) ∧ w'.frozen? ⟨w.heap.size + 1, 7, none⟩ = false ∧ w'.cell? ⟨w.heap.size + 1, 8, none⟩ = some (.bool false) ∧ w'.frozen? ⟨w.heap.size + 1, 8, none⟩ = false ∧ w'.cell? ⟨w.heap.size + 1, 9, none⟩ = some (.bool false) ∧ w'.frozen? ⟨w.heap.size + 1, 9, none⟩ = false ∧ Below w.heap.size w w') (fun ba w' => w'.cell? ⟨ba, 0, none⟩ = some (.int .u8 0) ∧ w'.frozen? ⟨ba, 0, none⟩ = false ∧ w'.cell? ⟨ba, 1, none⟩ = some (.int .u8 0) ∧ w'.frozen? ⟨ba, 1, none⟩ = false ∧ w.heap.size ≤ ba ∧ w.heap.size < ba ∧ w.heap.size + 1 < ba) (by kernel_rfl) (by kernel_rfl) (by kernel_rfl) (by kernel_rfl) (by kernel_rfl) ?_ (fun W w1 hSw hb => ⟨kc hb hSw.1, kc hb hSw.2.1, kc hb hSw.2.2.1, kc hb hSw.2.2.2.1, kc hb hSw.2.2.2.2.1, kc hb hSw.2.2.2.2.2.1, kfz hb (klt hSw.2.2.2.2.2.1) hSw.2.2.2.2.2.2.1, kc hb hSw.2.2.2.2.2.2.2.1, kfz hb (klt hSw.2.2.2.2.2.2.2.1) hSw.2.2.2.2.2.2.2.2.1, kc hb hSw.2.2.2.2.2.2.2.2.2.1, kfz hb (klt hSw.2.2.2.2.2.2.2.2.2.1) hSw.2.2.2.2.2.2.2.2.2.2.1, kc hb hSw.2.2.2.2.2.2.2.2.2.2.2.1, kfz hb (klt hSw.2.2.2.2.2.2.2.2.2.2.2.1) hSw.2.2.2.2.2.2.2.2.2.2.2.2.1, kc hb hSw.2.2.2.2.2.2.2.2.2.2.2.2.2.1, kfz hb (klt hSw.2.2.2.2.2.2.2.2.2.2.2.2.2.1) hSw.2.2.2.2.2.2.2.2.2.2.2.2.2.2.1, kc hb hSw.2.2.2.2.2.2.2.2.2.2.2.2.2.2.2.1, kfz hb (klt hSw.2.2.2.2.2.2.2.2.2.2.2.2.2.2.2.1) hSw.2.2.2.2.2.2.2.2.2.2.2.2.2.2.2.2.1, kc hb hSw.2.2.2.2.2.2.2.2.2.2.2.2.2.2.2.2.2.1, kfz hb (klt hSw.2.2.2.2.2.2.2.2.2.2.2.2.2.2.2.2.2.1) hSw.2.2.2.2.2.2.2.2.2.2.2.2.2.2.2.2.2.2.1, kc hb hSw.2.2.2.2.2.2.2.2.2.2.2.2.2.2.2.2.2.2.2.1, kfz hb (klt hSw.2.2.2.2.2.2.2.2.2.2.2.2.2.2.2.2.2.2.2.1) hSw.2.2.2.2.2.2.2.2.2.2.2.2.2.2.2.2.2.2.2.2.1, kc hb hSw.2.2.2.2.2.2.2.2.2.2.2.2.2.2.2.2.2.2.2.2.2.1, kfz hb (klt hSw.2.2.2.2.2.2.2.2.2.2.2.2.2.2.2.2.2.2.2.2.2.1) hSw.2.2.2.2.2.2.2.2.2.2.2.2.2.2.2.2.2.2.2.2.2.2.1, kc hb hSw.2.2.2.2.2.2.2.2.2.2.2.2.2.2.2.2.2.2.2.2.2.2.2.1, kfz hb (klt hSw.2.2.2.2.2.2.2.2.2.2.2.2.2.2.2.2.2.2.2.2.2.2.2.1) hSw.2.2.2.2.2.2.2.2.2.2.2.2.2.2.2.2.2.2.2.2.2.2.2.2.1, kb hSw.2.2.2.2.2.2.2.2.2.2.2.2.2.2.2.2.2.2.2.2.2.2.2.2.2 hb⟩) (fun ba W w1 hEw hb => ⟨kc hb hEw.1, kfz hb (klt hEw.1) hEw.2.1, kc hb hEw.2.2.1, kfz hb (klt hEw.2.2.1) hEw.2.2.2.1, hEw.2.2.2.2⟩) ?_ ?_ ?_
  · intro a W; show (execOp _ _).run _ _ = _; first | rfl | kernel_rfl
  · intro W hSw
    have hzW := (hSw.2.2.2.2.2.2.2.2.2.2.2.2.2.2.2.2.2.2.2.2.2.2.2.2.2).size
    have hkW0 := klt (hSw.1)
    have hkW5 := klt (hSw.2.2.2.2.2.1)
    refine ⟨?_, ?_, ?_, ?_, ?_, ?_, ?_⟩ <;> first | (go_simp; done) | omega | (dsimp only; omega)
  · (try dsimp only)
    refine ⟨?_, ?_, ?_, ?_, ?_, ?_, ?_, ?_, ?_, ?_, ?_, ?_, ?_, ?_, ?_, ?_, ?_, ?_, ?_, ?_, ?_, ?_, ?_, ?_, ?_, ?_⟩ <;> first | (go_simp; done) | (simp [*]; done) | go_grown
  (try simp only [List.append_eq, List.cons_append, List.nil_append, List.toList_toArray, List.take_succ_cons, List.take_zero, List.drop_succ_cons, List.drop_zero])
  repeat (first
    | (refine PlanA.skip (by decide) ?_)
    | (refine PlanA.val (v := ?_) (by decide) ?_ ?_ ?_; rotate_left; (· rfl); (· (intro W hSw; (try dsimp only at hSw); go_simp; all_goals (first | (with_reducible rfl) | (constructor <;> (with_reducible rfl))))); (try simp only [Act.put, List.setIfInBounds_toArray, List.set_cons_zero, List.set_cons_succ]))
    | (refine PlanA.no (by decide) ?_ ?_; (· rfl); (try simp only [Act.put, List.setIfInBounds_toArray, List.set_cons_zero, List.set_cons_succ]))
    | (refine PlanA.call (v := ?_) (f := ?_) (args := ?_) (by decide) ?_ ?_ ?_ ?_; rotate_left 3; (· rfl); (· (intro W hSw; (try dsimp only at hSw); go_simp; all_goals (first | (with_reducible rfl) | (constructor <;> (with_reducible rfl))))); (· (intro W hSw; (try dsimp only at hSw); first | (go_at_call 41; ((with_reducible refine (spread_b _ _).mono ?_); rintro _ wz ⟨rfl, hb⟩; (refine ⟨?_, hb⟩; with_reducible rfl))))); (try simp only [Act.put, List.setIfInBounds_toArray, List.set_cons_zero, List.set_cons_succ])))
  refine PlanA.done ?_
  intro ba w1 T E
  (try dsimp only at T E)
  (try simp only [Act.put, List.setIfInBounds_toArray, List.set_cons_zero, List.set_cons_succ])
  obtain ⟨hx_0, hx_1, hx_2, hx_3, hx_4, hr_0, fr_0, hr_1, fr_1, hr_2, fr_2, hr_3, fr_3, hr_4, fr_4, hr_5, fr_5, hr_6, fr_6, hr_7, fr_7, hr_8, fr_8, hr_9, fr_9, hB⟩ := T
  obtain ⟨ha_0, fa_0, ha_1, fa_1, hg_ba, hq_ba_x, hq_ba_r⟩ := E
  have hr_ba_x : ¬ w.heap.size = ba := by omega
  have hs_ba_x : ¬ ba = w.heap.size := by omega
  have hr_ba_r : ¬ w.heap.size + 1 = ba := by omega
  have hs_ba_r : ¬ ba = w.heap.size + 1 := by omega
  have hsz := hB.size
  have hlx := klt hx_0
  have hlr := klt hr_0
  have hla := klt ha_0
  have hnx0 : ¬ (w.heap.size = w1.heap.size) := by omega
  have hnx1 : ¬ (w.heap.size = w1.heap.size + 1) := by omega
  have hkx1 : w.heap.size < w1.heap.size + 1 := by omega
  have hnx2 : ¬ (w.heap.size = w1.heap.size + 1 + 1) := by omega
  have hkx2 : w.heap.size < w1.heap.size + 1 + 1 := by omega
  have hnr0 : ¬ (w.heap.size + 1 = w1.heap.size) := by omega
  have hkr1 : w.heap.size < w1.heap.size := by omega
  have hna0 : ¬ (ba = w1.heap.size) := by omega
  have hna1 : ¬ (ba = w1.heap.size + 1) := by omega
  have hka1 : ba < w1.heap.size + 1 := by omega
  have hna2 : ¬ (ba = w1.heap.size + 1 + 1) := by omega
  have hka2 : ba < w1.heap.size + 1 + 1 := by omega
  go_wp2_with fail
  ((with_reducible refine (zero_r _ _ _).mono ?_); rintro _ w2 ⟨rfl, hb⟩)
  have T : w2.cell? ⟨w.heap.size, 0, none⟩ = some (.int .i64 (u8 s.a)) ∧ w2.cell? ⟨w.heap.size, 1, none⟩ = some (.bool s.n) ∧ w2.cell? ⟨w.heap.size, 2, none⟩ = some (.bool s.v) ∧ w2.cell? ⟨w.heap.size, 3, none⟩ = some (.bool s.z) ∧ w2.cell? ⟨w.heap.size, 4, none⟩ = some (.bool s.c) ∧ w2.cell? ⟨w.heap.size + 1, 0, none⟩ = some (.int .u8 0) ∧ w2.frozen? ⟨w.heap.size + 1, 0, none⟩ = false ∧ w2.cell? ⟨w.heap.size + 1, 1, none⟩ = some (.int .u8 0) ∧ w2.frozen? ⟨w.heap.size + 1, 1, none⟩ = false ∧ w2.cell? ⟨w.heap.size + 1, 2, none⟩ = some (.bool false) ∧ w2.frozen? ⟨w.heap.size + 1, 2, none⟩ = false ∧ w2.cell? ⟨w.heap.size + 1, 3, none⟩ = some (.bool false) ∧ w2.frozen? ⟨w.heap.size + 1, 3, none⟩ = false ∧ w2.cell? ⟨w.heap.size + 1, 4, none⟩ = some (.bool false) ∧ w2.frozen? ⟨w.heap.size + 1, 4, none⟩ = false ∧ w2.cell? ⟨w.heap.size + 1, 5, none⟩ = some (.bool false) ∧ w2.frozen? ⟨w.heap.size + 1, 5, none⟩ = false ∧ w2.cell? ⟨w.heap.size + 1, 6, none⟩ = some (.bool false) ∧ w2.frozen? ⟨w.heap.size + 1, 6, none⟩ = false ∧ w2.cell? ⟨w.heap.size + 1, 7, none⟩ = some (.bool false) ∧ w2.frozen? ⟨w.heap.size + 1, 7, none⟩ = false ∧ w2.cell? ⟨w.heap.size + 1, 8, none⟩ = some (.bool false) ∧ w2.frozen? ⟨w.heap.size + 1, 8, none⟩ = false ∧ w2.cell? ⟨w.heap.size + 1, 9, none⟩ = some (.bool false) ∧ w2.frozen? ⟨w.heap.size + 1, 9, none⟩ = false ∧ w2.cell? ⟨ba, 0, none⟩ = some (B8 s.a) ∧ w2.frozen? ⟨ba, 0, none⟩ = false ∧ w2.cell? ⟨ba, 1, none⟩ = some (B8 (spr z)) ∧ w2.frozen? ⟨ba, 1, none⟩ = false := by
      refine ⟨?_, ?_, ?_, ?_, ?_, ?_, ?_, ?_, ?_, ?_, ?_, ?_, ?_, ?_, ?_, ?_, ?_, ?_, ?_, ?_, ?_, ?_, ?_, ?_, ?_, ?_, ?_, ?_, ?_⟩ <;> first | (refine kc hb ?_ <;> (go_simp; first | done | rfl)) | (refine kfz hb ?_ ?_ <;> first | (go_size; done) | (go_simp; done))
  have hz := hb.size
  (try simp only [World.size_alloc, World.size_setCell, World.size_drew] at hz)
  have hlx' : w.heap.size < w2.heap.size := by omega
  have hlr' : w.heap.size + 1 < w2.heap.size := by omega
  have hlav' : ba < w2.heap.size := by omega
  have hB' : Below w.heap.size w w2 := by
      refine kb ?_ hb
      go_grown
  clear hx_0 hx_1 hx_2 hx_3 hx_4 hr_0 fr_0 hr_1 fr_1 hr_2 fr_2 hr_3 fr_3 hr_4 fr_4 hr_5 fr_5 hr_6 fr_6 hr_7 fr_7 hr_8 fr_8 hr_9 fr_9 ha_0 fa_0 ha_1 fa_1 hB hsz hlx hlr hla hnx0 hnx1 hkx1 hnx2 hkx2 hnr0 hkr1 hna0 hna1 hka1 hna2 hka2
  clear hb hz
  obtain ⟨hx_0, hx_1, hx_2, hx_3, hx_4, hr_0, fr_0, hr_1, fr_1, hr_2, fr_2, hr_3, fr_3, hr_4, fr_4, hr_5, fr_5, hr_6, fr_6, hr_7, fr_7, hr_8, fr_8, hr_9, fr_9, hav_0, fav_0, hav_1, fav_1⟩ := T
  have hlx := hlx'; clear hlx'
  have hlr := hlr'; clear hlr'
  have hlav := hlav'; clear hlav'
  have hnx0 : ¬ (w.heap.size = w2.heap.size) := by omega
  have hnx1 : ¬ (w.heap.size = w2.heap.size + 1) := by omega
  have hkx1 : w.heap.size < w2.heap.size + 1 := by omega
  have hnx2 : ¬ (w.heap.size = w2.heap.size + 1 + 1) := by omega
  have hkx2 : w.heap.size < w2.heap.size + 1 + 1 := by omega
  have hnr0 : ¬ (w.heap.size + 1 = w2.heap.size) := by omega
  have hkr1 : w.heap.size < w2.heap.size := by omega
  have hnav0 : ¬ (ba = w2.heap.size) := by omega
  have hnav1 : ¬ (ba = w2.heap.size + 1) := by omega
  have hkav1 : ba < w2.heap.size + 1 := by omega
  have hnav2 : ¬ (ba = w2.heap.size + 1 + 1) := by omega
  have hkav2 : ba < w2.heap.size + 1 + 1 := by omega
  have hB := hB'; clear hB'
  have hsz := hB.size
  have hn0 : ¬ w.heap.size + 1 = w2.heap.size + 1 := by omega
  go_upto_region 10 with fail
  refine wp_pin (fun w' => w'.cell? ⟨w.heap.size + 1, 0, none⟩ = some (.int .u8 0) ∧ w'.frozen? ⟨w.heap.size + 1, 0, none⟩ = false ∧ w'.cell? ⟨w.heap.size + 1, 1, none⟩ = some (.int .u8 0) ∧ w'.frozen? ⟨w.heap.size + 1, 1, none⟩ = false ∧ w'.cell? ⟨w.heap.size + 1, 2, none⟩ = some (.bool false) ∧ w'.frozen? ⟨w.heap.size + 1, 2, none⟩ = false ∧ w'.cell? ⟨w.heap.size + 1, 3, none⟩ = some (.bool false) ∧ w'.frozen? ⟨w.heap.size + 1, 3, none⟩ = false ∧ w'.cell? ⟨w.heap.size + 1, 4, none⟩ = some (.bool false) ∧ w'.frozen? ⟨w.heap.size + 1, 4, none⟩ = false ∧ w'.cell? ⟨w.heap.size + 1, 5, none⟩ = some (.bool false) ∧ w'.frozen? ⟨w.heap.size + 1, 5, none⟩ = false ∧ w'.cell? ⟨w.heap.size + 1, 6, none⟩ = some (.bool false) ∧ w'.frozen? ⟨w.heap.size + 1, 6, none⟩ = false ∧ w'.cell? ⟨w.heap.size + 1, 7, none⟩ = some (.bool false) ∧ w'.frozen? ⟨w.heap.size + 1, 7, none⟩ = false ∧ w'.cell? ⟨w.heap.size + 1, 8, none⟩ = some (.bool false) ∧ w'.frozen? ⟨w.heap.size + 1, 8, none⟩ = false ∧ w'.cell? ⟨w.heap.size + 1, 9, none⟩ = some (.bool false) ∧ w'.frozen? ⟨w.heap.size + 1, 9, none⟩ = false ∧ w'.cell? ⟨w2.heap.size + 1, 0, none⟩ = some (B8 s.a) ∧ w'.cell? ⟨w2.heap.size + 1, 1, none⟩ = some (B8 (spr z)) ∧ w'.cell? ⟨w2.heap.size + 1, 2, none⟩ = some (.bool s.n) ∧ w'.cell? ⟨w2.heap.size + 1, 3, none⟩ = some (.bool (bitAt (spr z) 7)) ∧ w'.cell? ⟨w2.heap.size + 1, 4, none⟩ = some (.bool s.v) ∧ w'.cell? ⟨w2.heap.size + 1, 5, none⟩ = some (.bool NZ) ∧ w'.cell? ⟨w2.heap.size + 1, 6, none⟩ = some (.bool s.z) ∧ w'.cell? ⟨w2.heap.size + 1, 7, none⟩ = some (.bool (zT s.a (spr z))) ∧ w'.cell? ⟨w2.heap.size + 1, 8, none⟩ = some (.bool s.c) ∧ w'.cell? ⟨w2.heap.size + 1, 9, none⟩ = some (.bool NZ) ∧ Below w.heap.size w w') ?_ ?_
  · (try dsimp only)
    refine ⟨?_, ?_, ?_, ?_, ?_, ?_, ?_, ?_, ?_, ?_, ?_, ?_, ?_, ?_, ?_, ?_, ?_, ?_, ?_, ?_, ?_, ?_, ?_, ?_, ?_, ?_, ?_, ?_, ?_, ?_, ?_⟩ <;> first | (go_simp; done) | (simp [*]; done) | go_grown
  intro w3 T
  (try dsimp only at T)
  clear hx_0 hx_1 hx_2 hx_3 hx_4 hr_0 fr_0 hr_1 fr_1 hr_2 fr_2 hr_3 fr_3 hr_4 fr_4 hr_5 fr_5 hr_6 fr_6 hr_7 fr_7 hr_8 fr_8 hr_9 fr_9 hav_0 fav_0 hav_1 fav_1 hlx hlr hlav hnx0 hnx1 hkx1 hnx2 hkx2 hnr0 hkr1 hnav0 hnav1 hkav1 hnav2 hkav2 hB hsz
  obtain ⟨hr_0, fr_0, hr_1, fr_1, hr_2, fr_2, hr_3, fr_3, hr_4, fr_4, hr_5, fr_5, hr_6, fr_6, hr_7, fr_7, hr_8, fr_8, hr_9, fr_9, ho_0, ho_1, ho_2, ho_3, ho_4, ho_5, ho_6, ho_7, ho_8, ho_9, hB⟩ := T
  have hsz := hB.size
  have hlr := klt hr_0
  have hlo := klt ho_0
  have hnr0 : ¬ (w.heap.size + 1 = w3.heap.size) := by omega
  have hnr1 : ¬ (w.heap.size = w3.heap.size) := by omega
  have hkr1 : w.heap.size < w3.heap.size := by omega
  have hnr2 : ¬ (w.heap.size = w3.heap.size + 1) := by omega
  have hkr2 : w.heap.size < w3.heap.size + 1 := by omega
  have hno0 : ¬ (w2.heap.size + 1 = w3.heap.size) := by omega
  have hno1 : ¬ (w2.heap.size = w3.heap.size) := by omega
  have hko1 : w2.heap.size < w3.heap.size := by omega
  have hno2 : ¬ (w2.heap.size = w3.heap.size + 1) := by omega
  have hko2 : w2.heap.size < w3.heap.size + 1 := by omega
  clear k1 k2 k3 z1 z2 y1 y2 eN v0 v1
  go_wp2
  refine bodyPost_ret (v := VS s ⟨spr z, bitAt (spr z) 7, NZ, zT s.a (spr z), NZ⟩) (by simp [results, Try.results36, go_sem, hr_0, hr_1, hr_2, hr_3, hr_4, hr_5, hr_6, hr_7, hr_8, hr_9] <;> first | done | rfl | exact dec_eq Iff.rfl) rfl ⟨rfl, by go_grown⟩

set_option maxRecDepth 100000 in
set_option maxHeartbeats 2000000 in
theorem told_0 (s : SV) (z : BitVec 8) (NZ : Bool) (eN : decide (0 < u8 z) = false) (w : World) : Calls Try.prog 36 #[RV s, .int .i64 (u8 z), .bool true] w fun e w' =>
    e = .returned (VS s ⟨0#8, false, false, false, false⟩) ∧ Below w.heap.size w w' := by
  have k1 := i64_u8
  have k2 := u8_wrap
  have k3 := top_bit
  have z1 := u8_lo z
  have z2 := u8_hi z
  have y1 := u8_lo (spr z)
  have y2 := u8_hi (spr z)
  have v0 : u8 0#8 = 0 := rfl
  have v1 : u8 255#8 = 255 := rfl
  go_enter Try.func36, Try.ntmps36
  go_wp2_with fail
  refine wp_region_planA 8 7 7 #[.int .u8 0, .int .u8 0] 23 (fun w' => w'.cell? ⟨w.heap.size, 0, none⟩ = some (.int .i64 (u8 s.a)) ∧ w'.cell? ⟨w.heap.size, 1, none⟩ = some (.bool s.n) ∧ w'.cell? ⟨w.heap.size, 2, none⟩ = some (.bool s.v) ∧ w'.cell? ⟨w.heap.size, 3, none⟩ = some (.bool s.z) ∧ w'.cell? ⟨w.heap.size, 4, none⟩ = some (.bool s.c) ∧ w'.cell? ⟨w.heap.size + 1, 0, none⟩ = some (.int .u8 0) ∧ w'.frozen? ⟨w.heap.size + 1, 0, none⟩ = false ∧ w'.cell? ⟨w.heap.size + 1, 1, none⟩ = some (.int .u8 0) ∧ w'.frozen? ⟨w.heap.size + 1, 1, none⟩ = false ∧ w'.cell? ⟨w.heap.size + 1, 2, none⟩ = some (.bool false) ∧ w'.frozen? ⟨w.heap.size + 1, 2, none⟩ = false ∧ w'.cell? ⟨w.heap.size + 1, 3, none⟩ = some (.bool false) ∧ w'.frozen? ⟨w.heap.size + 1, 3, none⟩ = false ∧ w'.cell? ⟨w.heap.size + 1, 4, none⟩ = some (.bool false) ∧ w'.frozen? ⟨w.heap.size + 1, 4, none⟩ = false ∧ w'.cell? ⟨w.heap.size + 1, 5, none⟩ = some (.bool false) ∧ w'.frozen? ⟨w.heap.size + 1, 5, none⟩ = false ∧ w'.cell? ⟨w.heap.size + 1, 6, none⟩ = some (.bool false) ∧ w'.frozen? ⟨w.heap.size + 1, 6, none⟩ = false ∧ w'.cell? ⟨w.heap.size + 1, 7, none⟩ = some (.bool false) ∧ w'.frozen? ⟨w.heap.size + 1, 7, none⟩ = false ∧ w'.cell? ⟨w.heap.size + 1, 8, none⟩ = some (.bool false) ∧ w'.frozen? ⟨w.heap.size + 1, 8, none⟩ = false ∧ w'.cell? ⟨w.heap.size + 1, 9, none⟩ = some (.bool false) ∧ w'.frozen? ⟨w.heap.size + 1, 9, none⟩ = false ∧ Below w.heap.size w w') (fun ba w' => w'.cell? ⟨ba, 0, none⟩ = some (.int .u8 0) ∧ w'.frozen? ⟨ba, 0, none⟩ = false ∧ w'.cell? ⟨ba, 1, none⟩ = some (.int .u8 0) ∧ w'.frozen? ⟨ba, 1, none⟩ = false ∧ w.heap.size ≤ ba ∧ w.heap.size < ba ∧ w.heap.size + 1 < ba) (by kernel_rfl) (by kernel_rfl) (by kernel_rfl) (by kernel_rfl) (by kernel_rfl) ?_ (fun W w1 hSw hb => ⟨kc hb hSw.1, kc hb hSw.2.1, kc hb hSw.2.2.1, kc hb hSw.2.2.2.1, kc hb hSw.2.2.2.2.1, kc hb hSw.2.2.2.2.2.1, kfz hb (klt hSw.2.2.2.2.2.1) hSw.2.2.2.2.2.2.1, kc hb hSw.2.2.2.2.2.2.2.1, kfz hb (klt hSw.2.2.2.2.2.2.2.1) hSw.2.2.2.2.2.2.2.2.1, kc hb hSw.2.2.2.2.2.2.2.2.2.1, kfz hb (klt hSw.2.2.2.2.2.2.2.2.2.1) hSw.2.2.2.2.2.2.2.2.2.2.1, kc hb hSw.2.2.2.2.2.2.2.2.2.2.2.1, kfz hb (klt hSw.2.2.2.2.2.2.2.2.2.2.2.1) hSw.2.2.2.2.2.2.2.2.2.2.2.2.1, kc hb hSw.2.2.2.2.2.2.2.2.2.2.2.2.2.1, kfz hb (klt hSw.2.2.2.2.2.2.2.2.2.2.2.2.2.1) hSw.2.2.2.2.2.2.2.2.2.2.2.2.2.2.1, kc hb hSw.2.2.2.2.2.2.2.2.2.2.2.2.2.2.2.1, kfz hb (klt hSw.2.2.2.2.2.2.2.2.2.2.2.2.2.2.2.1) hSw.2.2.2.2.2.2.2.2.2.2.2.2.2.2.2.2.1, kc hb hSw.2.2.2.2.2.2.2.2.2.2.2.2.2.2.2.2.2.1, kfz hb (klt hSw.2.2.2.2.2.2.2.2.2.2.2.2.2.2.2.2.2.1) hSw.2.2.2.2.2.2.2.2.2.2.2.2.2.2.2.2.2.2.1, kc hb hSw.2.2.2.2.2.2.2.2.2.2.2.2.2.2.2.2.2.2.2.1, kfz hb (klt hSw.2.2.2.2.2.2.2.2.2.2.2.2.2.2.2.2.2.2.2.1) hSw.2.2.2.2.2.2.2.2.2.2.2.2.2.2.2.2.2.2.2.2.1, kc hb hSw.2.2.2.2.2.2.2.2.2.2.2.2.2.2.2.2.2.2.2.2.2.1, kfz hb (klt hSw.2.2.2.2.2.2.2.2.2.2.2.2.2.2.2.2.2.2.2.2.2.1) hSw.2.2.2.2.2.2.2.2.2.2.2.2.2.2.2.2.2.2.2.2.2.2.1, kc hb hSw.2.2.2.2.2.2.2.2.2.2.2.2.2.2.2.2.2.2.2.2.2.2.2.1, kfz hb (klt hSw.2.2.2.2.2.2.2.2.2.2.2.2.2.2.2.2.2.2.2.2.2.2.2.1) hSw.2.2.2.2.2.2.2.2.2.2.2.2.2.2.2.2.2.2.2.2.2.2.2.2.1, kb hSw.2.2.2.2.2.2.2.2.2.2.2.2.2.2.2.2.2.2.2.2.2.2.2.2.2 hb⟩) (fun ba W w1 hEw hb => ⟨kc hb hEw.1, kfz hb (klt hEw.1) hEw.2.1, kc hb hEw.2.2.1, kfz hb (klt hEw.2.2.1) hEw.2.2.2.1, hEw.2.2.2.2⟩) ?_ ?_ ?_
  · intro a W; show (execOp _ _).run _ _ = _; first | rfl | kernel_rfl
  · intro W hSw
    have hzW := (hSw.2.2.2.2.2.2.2.2.2.2.2.2.2.2.2.2.2.2.2.2.2.2.2.2.2).size
    have hkW0 := klt (hSw.1)
    have hkW5 := klt (hSw.2.2.2.2.2.1)
    refine ⟨?_, ?_, ?_, ?_, ?_, ?_, ?_⟩ <;> first | (go_simp; done) | omega | (dsimp only; omega)
  · (try dsimp only)
    refine ⟨?_, ?_, ?_, ?_, ?_, ?_, ?_, ?_, ?_, ?_, ?_, ?_, ?_, ?_, ?_, ?_, ?_, ?_, ?_, ?_, ?_, ?_, ?_, ?_, ?_, ?_⟩ <;> first | (go_simp; done) | (simp [*]; done) | go_grown
  (try simp only [List.append_eq, List.cons_append, List.nil_append, List.toList_toArray, List.take_succ_cons, List.take_zero, List.drop_succ_cons, List.drop_zero])
  repeat (first
    | (refine PlanA.skip (by decide) ?_)
    | (refine PlanA.val (v := ?_) (by decide) ?_ ?_ ?_; rotate_left; (· rfl); (· (intro W hSw; (try dsimp only at hSw); go_simp; all_goals (first | (with_reducible rfl) | (constructor <;> (with_reducible rfl))))); (try simp only [Act.put, List.setIfInBounds_toArray, List.set_cons_zero, List.set_cons_succ]))
    | (refine PlanA.no (by decide) ?_ ?_; (· rfl); (try simp only [Act.put, List.setIfInBounds_toArray, List.set_cons_zero, List.set_cons_succ]))
    | (refine PlanA.call (v := ?_) (f := ?_) (args := ?_) (by decide) ?_ ?_ ?_ ?_; rotate_left 3; (· rfl); (· (intro W hSw; (try dsimp only at hSw); go_simp; all_goals (first | (with_reducible rfl) | (constructor <;> (with_reducible rfl))))); (· (intro W hSw; (try dsimp only at hSw); first | (go_at_call 41; ((with_reducible refine (spread_b _ _).mono ?_); rintro _ wz ⟨rfl, hb⟩; (refine ⟨?_, hb⟩; with_reducible rfl))))); (try simp only [Act.put, List.setIfInBounds_toArray, List.set_cons_zero, List.set_cons_succ])))
  refine PlanA.done ?_
  intro ba w1 T E
  (try dsimp only at T E)
  (try simp only [Act.put, List.setIfInBounds_toArray, List.set_cons_zero, List.set_cons_succ])
  obtain ⟨hx_0, hx_1, hx_2, hx_3, hx_4, hr_0, fr_0, hr_1, fr_1, hr_2, fr_2, hr_3, fr_3, hr_4, fr_4, hr_5, fr_5, hr_6, fr_6, hr_7, fr_7, hr_8, fr_8, hr_9, fr_9, hB⟩ := T
  obtain ⟨ha_0, fa_0, ha_1, fa_1, hg_ba, hq_ba_x, hq_ba_r⟩ := E
  have hr_ba_x : ¬ w.heap.size = ba := by omega
  have hs_ba_x : ¬ ba = w.heap.size := by omega
  have hr_ba_r : ¬ w.heap.size + 1 = ba := by omega
  have hs_ba_r : ¬ ba = w.heap.size + 1 := by omega
  have hsz := hB.size
  have hlx := klt hx_0
  have hlr := klt hr_0
  have hla := klt ha_0
  have hnx0 : ¬ (w.heap.size = w1.heap.size) := by omega
  have hnx1 : ¬ (w.heap.size = w1.heap.size + 1) := by omega
  have hkx1 : w.heap.size < w1.heap.size + 1 := by omega
  have hnx2 : ¬ (w.heap.size = w1.heap.size + 1 + 1) := by omega
  have hkx2 : w.heap.size < w1.heap.size + 1 + 1 := by omega
  have hnr0 : ¬ (w.heap.size + 1 = w1.heap.size) := by omega
  have hkr1 : w.heap.size < w1.heap.size := by omega
  have hna0 : ¬ (ba = w1.heap.size) := by omega
  have hna1 : ¬ (ba = w1.heap.size + 1) := by omega
  have hka1 : ba < w1.heap.size + 1 := by omega
  have hna2 : ¬ (ba = w1.heap.size + 1 + 1) := by omega
  have hka2 : ba < w1.heap.size + 1 + 1 := by omega
  go_wp2_with fail
  ((with_reducible refine (zero_r _ _ _).mono ?_); rintro _ w2 ⟨rfl, hb⟩)
  have T : w2.cell? ⟨w.heap.size, 0, none⟩ = some (.int .i64 (u8 s.a)) ∧ w2.cell? ⟨w.heap.size, 1, none⟩ = some (.bool s.n) ∧ w2.cell? ⟨w.heap.size, 2, none⟩ = some (.bool s.v) ∧ w2.cell? ⟨w.heap.size, 3, none⟩ = some (.bool s.z) ∧ w2.cell? ⟨w.heap.size, 4, none⟩ = some (.bool s.c) ∧ w2.cell? ⟨w.heap.size + 1, 0, none⟩ = some (.int .u8 0) ∧ w2.frozen? ⟨w.heap.size + 1, 0, none⟩ = false ∧ w2.cell? ⟨w.heap.size + 1, 1, none⟩ = some (.int .u8 0) ∧ w2.frozen? ⟨w.heap.size + 1, 1, none⟩ = false ∧ w2.cell? ⟨w.heap.size + 1, 2, none⟩ = some (.bool false) ∧ w2.frozen? ⟨w.heap.size + 1, 2, none⟩ = false ∧ w2.cell? ⟨w.heap.size + 1, 3, none⟩ = some (.bool false) ∧ w2.frozen? ⟨w.heap.size + 1, 3, none⟩ = false ∧ w2.cell? ⟨w.heap.size + 1, 4, none⟩ = some (.bool false) ∧ w2.frozen? ⟨w.heap.size + 1, 4, none⟩ = false ∧ w2.cell? ⟨w.heap.size + 1, 5, none⟩ = some (.bool false) ∧ w2.frozen? ⟨w.heap.size + 1, 5, none⟩ = false ∧ w2.cell? ⟨w.heap.size + 1, 6, none⟩ = some (.bool false) ∧ w2.frozen? ⟨w.heap.size + 1, 6, none⟩ = false ∧ w2.cell? ⟨w.heap.size + 1, 7, none⟩ = some (.bool false) ∧ w2.frozen? ⟨w.heap.size + 1, 7, none⟩ = false ∧ w2.cell? ⟨w.heap.size + 1, 8, none⟩ = some (.bool false) ∧ w2.frozen? ⟨w.heap.size + 1, 8, none⟩ = false ∧ w2.cell? ⟨w.heap.size + 1, 9, none⟩ = some (.bool false) ∧ w2.frozen? ⟨w.heap.size + 1, 9, none⟩ = false ∧ w2.cell? ⟨ba, 0, none⟩ = some (B8 s.a) ∧ w2.frozen? ⟨ba, 0, none⟩ = false ∧ w2.cell? ⟨ba, 1, none⟩ = some (B8 (spr z)) ∧ w2.frozen? ⟨ba, 1, none⟩ = false := by
      refine ⟨?_, ?_, ?_, ?_, ?_, ?_, ?_, ?_, ?_, ?_, ?_, ?_, ?_, ?_, ?_, ?_, ?_, ?_, ?_, ?_, ?_, ?_, ?_, ?_, ?_, ?_, ?_, ?_, ?_⟩ <;> first | (refine kc hb ?_ <;> (go_simp; first | done | rfl)) | (refine kfz hb ?_ ?_ <;> first | (go_size; done) | (go_simp; done))
  have hz := hb.size
  (try simp only [World.size_alloc, World.size_setCell, World.size_drew] at hz)
  have hlx' : w.heap.size < w2.heap.size := by omega
  have hlr' : w.heap.size + 1 < w2.heap.size := by omega
  have hlav' : ba < w2.heap.size := by omega
  have hB' : Below w.heap.size w w2 := by
      refine kb ?_ hb
      go_grown
  clear hx_0 hx_1 hx_2 hx_3 hx_4 hr_0 fr_0 hr_1 fr_1 hr_2 fr_2 hr_3 fr_3 hr_4 fr_4 hr_5 fr_5 hr_6 fr_6 hr_7 fr_7 hr_8 fr_8 hr_9 fr_9 ha_0 fa_0 ha_1 fa_1 hB hsz hlx hlr hla hnx0 hnx1 hkx1 hnx2 hkx2 hnr0 hkr1 hna0 hna1 hka1 hna2 hka2
  clear hb hz
  obtain ⟨hx_0, hx_1, hx_2, hx_3, hx_4, hr_0, fr_0, hr_1, fr_1, hr_2, fr_2, hr_3, fr_3, hr_4, fr_4, hr_5, fr_5, hr_6, fr_6, hr_7, fr_7, hr_8, fr_8, hr_9, fr_9, hav_0, fav_0, hav_1, fav_1⟩ := T
  have hlx := hlx'; clear hlx'
  have hlr := hlr'; clear hlr'
  have hlav := hlav'; clear hlav'
  have hnx0 : ¬ (w.heap.size = w2.heap.size) := by omega
  have hnx1 : ¬ (w.heap.size = w2.heap.size + 1) := by omega
  have hkx1 : w.heap.size < w2.heap.size + 1 := by omega
  have hnx2 : ¬ (w.heap.size = w2.heap.size + 1 + 1) := by omega
  have hkx2 : w.heap.size < w2.heap.size + 1 + 1 := by omega
  have hnr0 : ¬ (w.heap.size + 1 = w2.heap.size) := by omega
  have hkr1 : w.heap.size < w2.heap.size := by omega
  have hnav0 : ¬ (ba = w2.heap.size) := by omega
  have hnav1 : ¬ (ba = w2.heap.size + 1) := by omega
  have hkav1 : ba < w2.heap.size + 1 := by omega
  have hnav2 : ¬ (ba = w2.heap.size + 1 + 1) := by omega
  have hkav2 : ba < w2.heap.size + 1 + 1 := by omega
  have hB := hB'; clear hB'
  have hsz := hB.size
  have hn0 : ¬ w.heap.size + 1 = w2.heap.size + 1 := by omega
  go_upto_region 10 with fail
  refine wp_pin (fun w' => w'.cell? ⟨w.heap.size + 1, 0, none⟩ = some (.int .u8 0) ∧ w'.frozen? ⟨w.heap.size + 1, 0, none⟩ = false ∧ w'.cell? ⟨w.heap.size + 1, 1, none⟩ = some (.int .u8 0) ∧ w'.frozen? ⟨w.heap.size + 1, 1, none⟩ = false ∧ w'.cell? ⟨w.heap.size + 1, 2, none⟩ = some (.bool false) ∧ w'.frozen? ⟨w.heap.size + 1, 2, none⟩ = false ∧ w'.cell? ⟨w.heap.size + 1, 3, none⟩ = some (.bool false) ∧ w'.frozen? ⟨w.heap.size + 1, 3, none⟩ = false ∧ w'.cell? ⟨w.heap.size + 1, 4, none⟩ = some (.bool false) ∧ w'.frozen? ⟨w.heap.size + 1, 4, none⟩ = false ∧ w'.cell? ⟨w.heap.size + 1, 5, none⟩ = some (.bool false) ∧ w'.frozen? ⟨w.heap.size + 1, 5, none⟩ = false ∧ w'.cell? ⟨w.heap.size + 1, 6, none⟩ = some (.bool false) ∧ w'.frozen? ⟨w.heap.size + 1, 6, none⟩ = false ∧ w'.cell? ⟨w.heap.size + 1, 7, none⟩ = some (.bool false) ∧ w'.frozen? ⟨w.heap.size + 1, 7, none⟩ = false ∧ w'.cell? ⟨w.heap.size + 1, 8, none⟩ = some (.bool false) ∧ w'.frozen? ⟨w.heap.size + 1, 8, none⟩ = false ∧ w'.cell? ⟨w.heap.size + 1, 9, none⟩ = some (.bool false) ∧ w'.frozen? ⟨w.heap.size + 1, 9, none⟩ = false ∧ w'.cell? ⟨w2.heap.size + 1, 0, none⟩ = some (B8 s.a) ∧ w'.cell? ⟨w2.heap.size + 1, 1, none⟩ = some (B8 0#8) ∧ w'.cell? ⟨w2.heap.size + 1, 2, none⟩ = some (.bool s.n) ∧ w'.cell? ⟨w2.heap.size + 1, 3, none⟩ = some (.bool false) ∧ w'.cell? ⟨w2.heap.size + 1, 4, none⟩ = some (.bool s.v) ∧ w'.cell? ⟨w2.heap.size + 1, 5, none⟩ = some (.bool false) ∧ w'.cell? ⟨w2.heap.size + 1, 6, none⟩ = some (.bool s.z) ∧ w'.cell? ⟨w2.heap.size + 1, 7, none⟩ = some (.bool false) ∧ w'.cell? ⟨w2.heap.size + 1, 8, none⟩ = some (.bool s.c) ∧ w'.cell? ⟨w2.heap.size + 1, 9, none⟩ = some (.bool false) ∧ Below w.heap.size w w') ?_ ?_
  · (try dsimp only)
    refine ⟨?_, ?_, ?_, ?_, ?_, ?_, ?_, ?_, ?_, ?_, ?_, ?_, ?_, ?_, ?_, ?_, ?_, ?_, ?_, ?_, ?_, ?_, ?_, ?_, ?_, ?_, ?_, ?_, ?_, ?_, ?_⟩ <;> first | (go_simp; done) | (simp [*]; done) | go_grown
  intro w3 T
  (try dsimp only at T)
  clear hx_0 hx_1 hx_2 hx_3 hx_4 hr_0 fr_0 hr_1 fr_1 hr_2 fr_2 hr_3 fr_3 hr_4 fr_4 hr_5 fr_5 hr_6 fr_6 hr_7 fr_7 hr_8 fr_8 hr_9 fr_9 hav_0 fav_0 hav_1 fav_1 hlx hlr hlav hnx0 hnx1 hkx1 hnx2 hkx2 hnr0 hkr1 hnav0 hnav1 hkav1 hnav2 hkav2 hB hsz
  obtain ⟨hr_0, fr_0, hr_1, fr_1, hr_2, fr_2, hr_3, fr_3, hr_4, fr_4, hr_5, fr_5, hr_6, fr_6, hr_7, fr_7, hr_8, fr_8, hr_9, fr_9, ho_0, ho_1, ho_2, ho_3, ho_4, ho_5, ho_6, ho_7, ho_8, ho_9, hB⟩ := T
  have hsz := hB.size
  have hlr := klt hr_0
  have hlo := klt ho_0
  have hnr0 : ¬ (w.heap.size + 1 = w3.heap.size) := by omega
  have hnr1 : ¬ (w.heap.size = w3.heap.size) := by omega
  have hkr1 : w.heap.size < w3.heap.size := by omega
  have hnr2 : ¬ (w.heap.size = w3.heap.size + 1) := by omega
  have hkr2 : w.heap.size < w3.heap.size + 1 := by omega
  have hno0 : ¬ (w2.heap.size + 1 = w3.heap.size) := by omega
  have hno1 : ¬ (w2.heap.size = w3.heap.size) := by omega
  have hko1 : w2.heap.size < w3.heap.size := by omega
  have hno2 : ¬ (w2.heap.size = w3.heap.size + 1) := by omega
  have hko2 : w2.heap.size < w3.heap.size + 1 := by omega
  clear k1 k2 k3 z1 z2 y1 y2 eN v0 v1
  go_wp2
  refine bodyPost_ret (v := VS s ⟨0#8, false, false, false, false⟩) (by simp [results, Try.results36, go_sem, hr_0, hr_1, hr_2, hr_3, hr_4, hr_5, hr_6, hr_7, hr_8, hr_9] <;> first | done | rfl | exact dec_eq Iff.rfl) rfl ⟨rfl, by go_grown⟩

set_option maxRecDepth 100000 in
set_option maxHeartbeats 2000000 in
theorem told_1 (s : SV) (z : BitVec 8) (NZ : Bool) (eN : decide (0 < u8 z) = true) (w : World) : Calls Try.prog 36 #[RV s, .int .i64 (u8 z), .bool true] w fun e w' =>
    e = .returned (VS s ⟨255#8, true, true, true, true⟩) ∧ Below w.heap.size w w' := by
  have k1 := i64_u8
  have k2 := u8_wrap
  have k3 := top_bit
  have z1 := u8_lo z
  have z2 := u8_hi z
  have y1 := u8_lo (spr z)
  have y2 := u8_hi (spr z)
  have v0 : u8 0#8 = 0 := rfl
  have v1 : u8 255#8 = 255 := rfl
  go_enter Try.func36, Try.ntmps36
  go_wp2_with fail
  refine wp_region_planA 8 7 7 #[.int .u8 0, .int .u8 0] 23 (fun w' => w'.cell? ⟨w.heap.size, 0, none⟩ = some (.int .i64 (u8 s.a)) ∧ w'.cell? ⟨w.heap.size, 1, none⟩ = some (.bool s.n) ∧ w'.cell? ⟨w.heap.size, 2, none⟩ = some (.bool s.v) ∧ w'.cell? ⟨w.heap.size, 3, none⟩ = some (.bool s.z) ∧ w'.cell? ⟨w.heap.size, 4, none⟩ = some (.bool s.c) ∧ w'.cell? ⟨w.heap.size + 1, 0, none⟩ = some (.int .u8 0) ∧ w'.frozen? ⟨w.heap.size + 1, 0, none⟩ = false ∧ w'.cell? ⟨w.heap.size + 1, 1, none⟩ = some (.int .u8 0) ∧ w'.frozen? ⟨w.heap.size + 1, 1, none⟩ = false ∧ w'.cell? ⟨w.heap.size + 1, 2, none⟩ = some (.bool false) ∧ w'.frozen? ⟨w.heap.size + 1, 2, none⟩ = false ∧ w'.cell? ⟨w.heap.size + 1, 3, none⟩ = some (.bool false) ∧ w'.frozen? ⟨w.heap.size + 1, 3, none⟩ = false ∧ w'.cell? ⟨w.heap.size + 1, 4, none⟩ = some (.bool false) ∧ w'.frozen? ⟨w.heap.size + 1, 4, none⟩ = false ∧ w'.cell? ⟨w.heap.size + 1, 5, none⟩ = some (.bool false) ∧ w'.frozen? ⟨w.heap.size + 1, 5, none⟩ = false ∧ w'.cell? ⟨w.heap.size + 1, 6, none⟩ = some (.bool false) ∧ w'.frozen? ⟨w.heap.size + 1, 6, none⟩ = false ∧ w'.cell? ⟨w.heap.size + 1, 7, none⟩ = some (.bool false) ∧ w'.frozen? ⟨w.heap.size + 1, 7, none⟩ = false ∧ w'.cell? ⟨w.heap.size + 1, 8, none⟩ = some (.bool false) ∧ w'.frozen? ⟨w.heap.size + 1, 8, none⟩ = false ∧ w'.cell? ⟨w.heap.size + 1, 9, none⟩ = some (.bool false) ∧ w'.frozen? ⟨w.heap.size + 1, 9, none⟩ = false ∧ Below w.heap.size w w') (fun ba w' => w'.cell? ⟨ba, 0, none⟩ = some (.int .u8 0) ∧ w'.frozen? ⟨ba, 0, none⟩ = false ∧ w'.cell? ⟨ba, 1, none⟩ = some (.int .u8 0) ∧ w'.frozen? ⟨ba, 1, none⟩ = false ∧ w.heap.size ≤ ba ∧ w.heap.size < ba ∧ w.heap.size + 1 < ba) (by kernel_rfl) (by kernel_rfl) (by kernel_rfl) (by kernel_rfl) (by kernel_rfl) ?_ (fun W w1 hSw hb => ⟨kc hb hSw.1, kc hb hSw.2.1, kc hb hSw.2.2.1, kc hb hSw.2.2.2.1, kc hb hSw.2.2.2.2.1, kc hb hSw.2.2.2.2.2.1, kfz hb (klt hSw.2.2.2.2.2.1) hSw.2.2.2.2.2.2.1, kc hb hSw.2.2.2.2.2.2.2.1, kfz hb (klt hSw.2.2.2.2.2.2.2.1) hSw.2.2.2.2.2.2.2.2.1, kc hb hSw.2.2.2.2.2.2.2.2.2.1, kfz hb (klt hSw.2.2.2.2.2.2.2.2.2.1) hSw.2.2.2.2.2.2.2.2.2.2.1, kc hb hSw.2.2.2.2.2.2.2.2.2.2.2.1, kfz hb (klt hSw.2.2.2.2.2.2.2.2.2.2.2.1) hSw.2.2.2.2.2.2.2.2.2.2.2.2.1, kc hb hSw.2.2.2.2.2.2.2.2.2.2.2.2.2.1, kfz hb (klt hSw.2.2.2.2.2.2.2.2.2.2.2.2.2.1) hSw.2.2.2.2.2.2.2.2.2.2.2.2.2.2.1, kc hb hSw.2.2.2.2.2.2.2.2.2.2.2.2.2.2.2.1, kfz hb (klt hSw.2.2.2.2.2.2.2.2.2.2.2.2.2.2.2.1) hSw.2.2.2.2.2.2.2.2.2.2.2.2.2.2.2.2.1, kc hb hSw.2.2.2.2.2.2.2.2.2.2.2.2.2.2.2.2.2.1, kfz hb (klt hSw.2.2.2.2.2.2.2.2.2.2.2.2.2.2.2.2.2.1) hSw.2.2.2.2.2.2.2.2.2.2.2.2.2.2.2.2.2.2.1, kc hb hSw.2.2.2.2.2.2.2.2.2.2.2.2.2.2.2.2.2.2.2.1, kfz hb (klt hSw.2.2.2.2.2.2.2.2.2.2.2.2.2.2.2.2.2.2.2.1) hSw.2.2.2.2.2.2.2.2.2.2.2.2.2.2.2.2.2.2.2.2.1, kc hb hSw.2.2.2.2.2.2.2.2.2.2.2.2.2.2.2.2.2.2.2.2.2.1, kfz hb (klt hSw.2.2.2.2.2.2.2.2.2.2.2.2.2.2.2.2.2.2.2.2.2.1) hSw.2.2.2.2.2.2.2.2.2.2.2.2.2.2.2.2.2.2.2.2.2.2.1, kc hb hSw.2.2.2.2.2.2.2.2.2.2.2.2.2.2.2.2.2.2.2.2.2.2.2.1, kfz hb (klt hSw.2.2.2.2.2.2.2.2.2.2.2.2.2.2.2.2.2.2.2.2.2.2.2.1) hSw.2.2.2.2.2.2.2.2.2.2.2.2.2.2.2.2.2.2.2.2.2.2.2.2.1, kb hSw.2.2.2.2.2.2.2.2.2.2.2.2.2.2.2.2.2.2.2.2.2.2.2.2.2 hb⟩) (fun ba W w1 hEw hb => ⟨kc hb hEw.1, kfz hb (klt hEw.1) hEw.2.1, kc hb hEw.2.2.1, kfz hb (klt hEw.2.2.1) hEw.2.2.2.1, hEw.2.2.2.2⟩) ?_ ?_ ?_
  · intro a W; show (execOp _ _).run _ _ = _; first | rfl | kernel_rfl
  · intro W hSw
    have hzW := (hSw.2.2.2.2.2.2.2.2.2.2.2.2.2.2.2.2.2.2.2.2.2.2.2.2.2).size
    have hkW0 := klt (hSw.1)
    have hkW5 := klt (hSw.2.2.2.2.2.1)
    refine ⟨?_, ?_, ?_, ?_, ?_, ?_, ?_⟩ <;> first | (go_simp; done) | omega | (dsimp only; omega)
  · (try dsimp only)
    refine ⟨?_, ?_, ?_, ?_, ?_, ?_, ?_, ?_, ?_, ?_, ?_, ?_, ?_, ?_, ?_, ?_, ?_, ?_, ?_, ?_, ?_, ?_, ?_, ?_, ?_, ?_⟩ <;> first | (go_simp; done) | (simp [*]; done) | go_grown
  (try simp only [List.append_eq, List.cons_append, List.nil_append, List.toList_toArray, List.take_succ_cons, List.take_zero, List.drop_succ_cons, List.drop_zero])
  repeat (first
    | (refine PlanA.skip (by decide) ?_)
    | (refine PlanA.val (v := ?_) (by decide) ?_ ?_ ?_; rotate_left; (· rfl); (· (intro W hSw; (try dsimp only at hSw); go_simp; all_goals (first | (with_reducible rfl) | (constructor <;> (with_reducible rfl))))); (try simp only [Act.put, List.setIfInBounds_toArray, List.set_cons_zero, List.set_cons_succ]))
    | (refine PlanA.no (by decide) ?_ ?_; (· rfl); (try simp only [Act.put, List.setIfInBounds_toArray, List.set_cons_zero, List.set_cons_succ]))
    | (refine PlanA.call (v := ?_) (f := ?_) (args := ?_) (by decide) ?_ ?_ ?_ ?_; rotate_left 3; (· rfl); (· (intro W hSw; (try dsimp only at hSw); go_simp; all_goals (first | (with_reducible rfl) | (constructor <;> (with_reducible rfl))))); (· (intro W hSw; (try dsimp only at hSw); first | (go_at_call 41; ((with_reducible refine (spread_b _ _).mono ?_); rintro _ wz ⟨rfl, hb⟩; (refine ⟨?_, hb⟩; with_reducible rfl))))); (try simp only [Act.put, List.setIfInBounds_toArray, List.set_cons_zero, List.set_cons_succ])))
  refine PlanA.done ?_
  intro ba w1 T E
  (try dsimp only at T E)
  (try simp only [Act.put, List.setIfInBounds_toArray, List.set_cons_zero, List.set_cons_succ])
  obtain ⟨hx_0, hx_1, hx_2, hx_3, hx_4, hr_0, fr_0, hr_1, fr_1, hr_2, fr_2, hr_3, fr_3, hr_4, fr_4, hr_5, fr_5, hr_6, fr_6, hr_7, fr_7, hr_8, fr_8, hr_9, fr_9, hB⟩ := T
  obtain ⟨ha_0, fa_0, ha_1, fa_1, hg_ba, hq_ba_x, hq_ba_r⟩ := E
  have hr_ba_x : ¬ w.heap.size = ba := by omega
  have hs_ba_x : ¬ ba = w.heap.size := by omega
  have hr_ba_r : ¬ w.heap.size + 1 = ba := by omega
  have hs_ba_r : ¬ ba = w.heap.size + 1 := by omega
  have hsz := hB.size
  have hlx := klt hx_0
  have hlr := klt hr_0
  have hla := klt ha_0
  have hnx0 : ¬ (w.heap.size = w1.heap.size) := by omega
  have hnx1 : ¬ (w.heap.size = w1.heap.size + 1) := by omega
  have hkx1 : w.heap.size < w1.heap.size + 1 := by omega
  have hnx2 : ¬ (w.heap.size = w1.heap.size + 1 + 1) := by omega
  have hkx2 : w.heap.size < w1.heap.size + 1 + 1 := by omega
  have hnr0 : ¬ (w.heap.size + 1 = w1.heap.size) := by omega
  have hkr1 : w.heap.size < w1.heap.size := by omega
  have hna0 : ¬ (ba = w1.heap.size) := by omega
  have hna1 : ¬ (ba = w1.heap.size + 1) := by omega
  have hka1 : ba < w1.heap.size + 1 := by omega
  have hna2 : ¬ (ba = w1.heap.size + 1 + 1) := by omega
  have hka2 : ba < w1.heap.size + 1 + 1 := by omega
  go_wp2_with fail
  ((with_reducible refine (zero_r _ _ _).mono ?_); rintro _ w2 ⟨rfl, hb⟩)
  have T : w2.cell? ⟨w.heap.size, 0, none⟩ = some (.int .i64 (u8 s.a)) ∧ w2.cell? ⟨w.heap.size, 1, none⟩ = some (.bool s.n) ∧ w2.cell? ⟨w.heap.size, 2, none⟩ = some (.bool s.v) ∧ w2.cell? ⟨w.heap.size, 3, none⟩ = some (.bool s.z) ∧ w2.cell? ⟨w.heap.size, 4, none⟩ = some (.bool s.c) ∧ w2.cell? ⟨w.heap.size + 1, 0, none⟩ = some (.int .u8 0) ∧ w2.frozen? ⟨w.heap.size + 1, 0, none⟩ = false ∧ w2.cell? ⟨w.heap.size + 1, 1, none⟩ = some (.int .u8 0) ∧ w2.frozen? ⟨w.heap.size + 1, 1, none⟩ = false ∧ w2.cell? ⟨w.heap.size + 1, 2, none⟩ = some (.bool false) ∧ w2.frozen? ⟨w.heap.size + 1, 2, none⟩ = false ∧ w2.cell? ⟨w.heap.size + 1, 3, none⟩ = some (.bool false) ∧ w2.frozen? ⟨w.heap.size + 1, 3, none⟩ = false ∧ w2.cell? ⟨w.heap.size + 1, 4, none⟩ = some (.bool false) ∧ w2.frozen? ⟨w.heap.size + 1, 4, none⟩ = false ∧ w2.cell? ⟨w.heap.size + 1, 5, none⟩ = some (.bool false) ∧ w2.frozen? ⟨w.heap.size + 1, 5, none⟩ = false ∧ w2.cell? ⟨w.heap.size + 1, 6, none⟩ = some (.bool false) ∧ w2.frozen? ⟨w.heap.size + 1, 6, none⟩ = false ∧ w2.cell? ⟨w.heap.size + 1, 7, none⟩ = some (.bool false) ∧ w2.frozen? ⟨w.heap.size + 1, 7, none⟩ = false ∧ w2.cell? ⟨w.heap.size + 1, 8, none⟩ = some (.bool false) ∧ w2.frozen? ⟨w.heap.size + 1, 8, none⟩ = false ∧ w2.cell? ⟨w.heap.size + 1, 9, none⟩ = some (.bool false) ∧ w2.frozen? ⟨w.heap.size + 1, 9, none⟩ = false ∧ w2.cell? ⟨ba, 0, none⟩ = some (B8 s.a) ∧ w2.frozen? ⟨ba, 0, none⟩ = false ∧ w2.cell? ⟨ba, 1, none⟩ = some (B8 (spr z)) ∧ w2.frozen? ⟨ba, 1, none⟩ = false := by
      refine ⟨?_, ?_, ?_, ?_, ?_, ?_, ?_, ?_, ?_, ?_, ?_, ?_, ?_, ?_, ?_, ?_, ?_, ?_, ?_, ?_, ?_, ?_, ?_, ?_, ?_, ?_, ?_, ?_, ?_⟩ <;> first | (refine kc hb ?_ <;> (go_simp; first | done | rfl)) | (refine kfz hb ?_ ?_ <;> first | (go_size; done) | (go_simp; done))
  have hz := hb.size
  (try simp only [World.size_alloc, World.size_setCell, World.size_drew] at hz)
  have hlx' : w.heap.size < w2.heap.size := by omega
  have hlr' : w.heap.size + 1 < w2.heap.size := by omega
  have hlav' : ba < w2.heap.size := by omega
  have hB' : Below w.heap.size w w2 := by
      refine kb ?_ hb
      go_grown
  clear hx_0 hx_1 hx_2 hx_3 hx_4 hr_0 fr_0 hr_1 fr_1 hr_2 fr_2 hr_3 fr_3 hr_4 fr_4 hr_5 fr_5 hr_6 fr_6 hr_7 fr_7 hr_8 fr_8 hr_9 fr_9 ha_0 fa_0 ha_1 fa_1 hB hsz hlx hlr hla hnx0 hnx1 hkx1 hnx2 hkx2 hnr0 hkr1 hna0 hna1 hka1 hna2 hka2
  clear hb hz
  obtain ⟨hx_0, hx_1, hx_2, hx_3, hx_4, hr_0, fr_0, hr_1, fr_1, hr_2, fr_2, hr_3, fr_3, hr_4, fr_4, hr_5, fr_5, hr_6, fr_6, hr_7, fr_7, hr_8, fr_8, hr_9, fr_9, hav_0, fav_0, hav_1, fav_1⟩ := T
  have hlx := hlx'; clear hlx'
  have hlr := hlr'; clear hlr'
  have hlav := hlav'; clear hlav'
  have hnx0 : ¬ (w.heap.size = w2.heap.size) := by omega
  have hnx1 : ¬ (w.heap.size = w2.heap.size + 1) := by omega
  have hkx1 : w.heap.size < w2.heap.size + 1 := by omega
  have hnx2 : ¬ (w.heap.size = w2.heap.size + 1 + 1) := by omega
  have hkx2 : w.heap.size < w2.heap.size + 1 + 1 := by omega
  have hnr0 : ¬ (w.heap.size + 1 = w2.heap.size) := by omega
  have hkr1 : w.heap.size < w2.heap.size := by omega
  have hnav0 : ¬ (ba = w2.heap.size) := by omega
  have hnav1 : ¬ (ba = w2.heap.size + 1) := by omega
  have hkav1 : ba < w2.heap.size + 1 := by omega
  have hnav2 : ¬ (ba = w2.heap.size + 1 + 1) := by omega
  have hkav2 : ba < w2.heap.size + 1 + 1 := by omega
  have hB := hB'; clear hB'
  have hsz := hB.size
  have hn0 : ¬ w.heap.size + 1 = w2.heap.size + 1 := by omega
  go_upto_region 10 with fail
  refine wp_pin (fun w' => w'.cell? ⟨w.heap.size + 1, 0, none⟩ = some (.int .u8 0) ∧ w'.frozen? ⟨w.heap.size + 1, 0, none⟩ = false ∧ w'.cell? ⟨w.heap.size + 1, 1, none⟩ = some (.int .u8 0) ∧ w'.frozen? ⟨w.heap.size + 1, 1, none⟩ = false ∧ w'.cell? ⟨w.heap.size + 1, 2, none⟩ = some (.bool false) ∧ w'.frozen? ⟨w.heap.size + 1, 2, none⟩ = false ∧ w'.cell? ⟨w.heap.size + 1, 3, none⟩ = some (.bool false) ∧ w'.frozen? ⟨w.heap.size + 1, 3, none⟩ = false ∧ w'.cell? ⟨w.heap.size + 1, 4, none⟩ = some (.bool false) ∧ w'.frozen? ⟨w.heap.size + 1, 4, none⟩ = false ∧ w'.cell? ⟨w.heap.size + 1, 5, none⟩ = some (.bool false) ∧ w'.frozen? ⟨w.heap.size + 1, 5, none⟩ = false ∧ w'.cell? ⟨w.heap.size + 1, 6, none⟩ = some (.bool false) ∧ w'.frozen? ⟨w.heap.size + 1, 6, none⟩ = false ∧ w'.cell? ⟨w.heap.size + 1, 7, none⟩ = some (.bool false) ∧ w'.frozen? ⟨w.heap.size + 1, 7, none⟩ = false ∧ w'.cell? ⟨w.heap.size + 1, 8, none⟩ = some (.bool false) ∧ w'.frozen? ⟨w.heap.size + 1, 8, none⟩ = false ∧ w'.cell? ⟨w.heap.size + 1, 9, none⟩ = some (.bool false) ∧ w'.frozen? ⟨w.heap.size + 1, 9, none⟩ = false ∧ w'.cell? ⟨w2.heap.size + 1, 0, none⟩ = some (B8 s.a) ∧ w'.cell? ⟨w2.heap.size + 1, 1, none⟩ = some (B8 255#8) ∧ w'.cell? ⟨w2.heap.size + 1, 2, none⟩ = some (.bool s.n) ∧ w'.cell? ⟨w2.heap.size + 1, 3, none⟩ = some (.bool true) ∧ w'.cell? ⟨w2.heap.size + 1, 4, none⟩ = some (.bool s.v) ∧ w'.cell? ⟨w2.heap.size + 1, 5, none⟩ = some (.bool true) ∧ w'.cell? ⟨w2.heap.size + 1, 6, none⟩ = some (.bool s.z) ∧ w'.cell? ⟨w2.heap.size + 1, 7, none⟩ = some (.bool true) ∧ w'.cell? ⟨w2.heap.size + 1, 8, none⟩ = some (.bool s.c) ∧ w'.cell? ⟨w2.heap.size + 1, 9, none⟩ = some (.bool true) ∧ Below w.heap.size w w') ?_ ?_
  · (try dsimp only)
    refine ⟨?_, ?_, ?_, ?_, ?_, ?_, ?_, ?_, ?_, ?_, ?_, ?_, ?_, ?_, ?_, ?_, ?_, ?_, ?_, ?_, ?_, ?_, ?_, ?_, ?_, ?_, ?_, ?_, ?_, ?_, ?_⟩ <;> first | (go_simp; done) | (simp [*]; done) | go_grown
  intro w3 T
  (try dsimp only at T)
  clear hx_0 hx_1 hx_2 hx_3 hx_4 hr_0 fr_0 hr_1 fr_1 hr_2 fr_2 hr_3 fr_3 hr_4 fr_4 hr_5 fr_5 hr_6 fr_6 hr_7 fr_7 hr_8 fr_8 hr_9 fr_9 hav_0 fav_0 hav_1 fav_1 hlx hlr hlav hnx0 hnx1 hkx1 hnx2 hkx2 hnr0 hkr1 hnav0 hnav1 hkav1 hnav2 hkav2 hB hsz
  obtain ⟨hr_0, fr_0, hr_1, fr_1, hr_2, fr_2, hr_3, fr_3, hr_4, fr_4, hr_5, fr_5, hr_6, fr_6, hr_7, fr_7, hr_8, fr_8, hr_9, fr_9, ho_0, ho_1, ho_2, ho_3, ho_4, ho_5, ho_6, ho_7, ho_8, ho_9, hB⟩ := T
  have hsz := hB.size
  have hlr := klt hr_0
  have hlo := klt ho_0
  have hnr0 : ¬ (w.heap.size + 1 = w3.heap.size) := by omega
  have hnr1 : ¬ (w.heap.size = w3.heap.size) := by omega
  have hkr1 : w.heap.size < w3.heap.size := by omega
  have hnr2 : ¬ (w.heap.size = w3.heap.size + 1) := by omega
  have hkr2 : w.heap.size < w3.heap.size + 1 := by omega
  have hno0 : ¬ (w2.heap.size + 1 = w3.heap.size) := by omega
  have hno1 : ¬ (w2.heap.size = w3.heap.size) := by omega
  have hko1 : w2.heap.size < w3.heap.size := by omega
  have hno2 : ¬ (w2.heap.size = w3.heap.size + 1) := by omega
  have hko2 : w2.heap.size < w3.heap.size + 1 := by omega
  clear k1 k2 k3 z1 z2 y1 y2 eN v0 v1
  go_wp2
  refine bodyPost_ret (v := VS s ⟨255#8, true, true, true, true⟩) (by simp [results, Try.results36, go_sem, hr_0, hr_1, hr_2, hr_3, hr_4, hr_5, hr_6, hr_7, hr_8, hr_9] <;> first | done | rfl | exact dec_eq Iff.rfl) rfl ⟨rfl, by go_grown⟩

theorem nz_eq (z : BitVec 8) : decide (0 < u8 z) = !(z == 0#8) := by
  have : ∀ z : BitVec 8, decide (0 < u8 z) = !(z == 0#8) := by decide +kernel
  exact this z
/-- What is told: of the secret bits, whether all is so. -/
theorem told_n (s : SV) (z : BitVec 8) (d dt : Bool) (w : World) : Calls Try.prog 36 #[RV s, .int .i64 (u8 (if dt then z ||| 1#8 else z)), .bool (d || dt)] w fun e w' =>
    e = .returned (VS s (hidT z s.a d dt)) ∧ Below w.heap.size w w' := by
  have one : (z ||| 1#8 == 0#8) = false := by
    have : ∀ z : BitVec 8, (z ||| 1#8 == 0#8) = false := by decide +kernel
    exact this z
  cases dt with
  | true =>
    have e : hidT z s.a d true = ⟨255#8, true, true, true, true⟩ := by unfold hidT; rw [if_neg (by simp), if_pos (by simp)]; rfl
    rw [e, Bool.or_true]
    exact told_1 s (z ||| 1#8) true (by rw [nz_eq, one]; rfl) w
  | false =>
    rw [Bool.or_false]
    cases hz : (z == 0#8)
    · cases d
      · have e : hidT z s.a false false = ⟨spr z, bitAt (spr z) 7, true, zT s.a (spr z), true⟩ := by unfold hidT; rw [if_neg (by simp [hz]), if_neg (by simp)]
        rw [e]
        exact told_f s z true (by rw [nz_eq, hz]; rfl) w
      · have e : hidT z s.a true false = ⟨255#8, true, true, true, true⟩ := by unfold hidT; rw [if_neg (by simp [hz]), if_pos (by simp)]; rfl
        rw [e]
        exact told_1 s z true (by rw [nz_eq, hz]; rfl) w
    · have e : hidT z s.a d false = ⟨0#8, false, false, false, false⟩ := by unfold hidT; rw [if_pos (by simp [hz])]; rfl
      rw [e]
      cases d
      · have h := told_f s z false (by rw [nz_eq, hz]; rfl) w
        have hz0 : z = 0#8 := by simpa using hz
        subst hz0
        have e2 : zT s.a (spr 0#8) = false := by
          have : ∀ a : BitVec 8, zT a (spr 0#8) = false := by decide +kernel
          exact this _
        rw [e2] at h
        exact h
      · exact told_0 s z false (by rw [nz_eq, hz]; rfl) w
end Go.Proofs.Ytdmgdldadpkhgaa
