/-
  What the document's Compare and Step come to; what 'same' of the laws of sums comes to.
-/
import Derived.Test.YtdmgdldadpkhgaaRSub
import Derived.Test.YtdmgdldadpkhgaaComp
set_option linter.unusedSimpArgs false
set_option linter.unusedVariables false
namespace Go.Proofs.Ytdmgdldadpkhgaa
open Go.RowKit

theorem rsub_cmp (x t y s : BitVec 8) (w : World) : Calls Try.prog 16 #[TB x t, TB y s, TBit true false, TBit false false] w fun e w' =>
    e = .returned (.agg #[B8 (cmpV x y).a, B8 (cmpT t s (cmpV x y).a).t, .bool (cmpV x y).n, .bool (cmpT t s (cmpV x y).a).n, .bool (addV x (~~~y) true).v, .bool (hidT (t ||| s) (cmpV x y).a false false).v,
      .bool (cmpV x y).z, .bool (cmpT t s (cmpV x y).a).z, .bool (cmpV x y).c, .bool (cmpT t s (cmpV x y).a).c]) ∧ Below w.heap.size w w' :=
  (rsub_n x t y s true false false false w).mono fun _ _ ⟨h1, h2⟩ => ⟨h1.trans rfl, h2⟩
set_option maxRecDepth 100000 in
set_option maxHeartbeats 2000000 in
theorem rcomp_n (x t y s : BitVec 8) (w : World) : Calls Try.prog 18 #[TB x t, TB y s] w fun e w' =>
    e = .returned (VS (cmpV x y) (cmpT t s (cmpV x y).a)) ∧ Below w.heap.size w w' := by
  go_enter Try.func18, Try.ntmps18
  go_wp2_with fail
  ((with_reducible refine (rsub_cmp x t y s _).mono ?_); rintro _ w1 ⟨rfl, hb⟩)
  have T : w1.cell? ⟨w.heap.size + 1 + 1, 0, none⟩ = some (.int .u8 0) ∧ w1.frozen? ⟨w.heap.size + 1 + 1, 0, none⟩ = false ∧ w1.cell? ⟨w.heap.size + 1 + 1, 1, none⟩ = some (.int .u8 0) ∧ w1.frozen? ⟨w.heap.size + 1 + 1, 1, none⟩ = false ∧ w1.cell? ⟨w.heap.size + 1 + 1, 2, none⟩ = some (.bool false) ∧ w1.frozen? ⟨w.heap.size + 1 + 1, 2, none⟩ = false ∧ w1.cell? ⟨w.heap.size + 1 + 1, 3, none⟩ = some (.bool false) ∧ w1.frozen? ⟨w.heap.size + 1 + 1, 3, none⟩ = false ∧ w1.cell? ⟨w.heap.size + 1 + 1, 4, none⟩ = some (.bool false) ∧ w1.frozen? ⟨w.heap.size + 1 + 1, 4, none⟩ = false ∧ w1.cell? ⟨w.heap.size + 1 + 1, 5, none⟩ = some (.bool false) ∧ w1.frozen? ⟨w.heap.size + 1 + 1, 5, none⟩ = false ∧ w1.cell? ⟨w.heap.size + 1 + 1, 6, none⟩ = some (.bool false) ∧ w1.frozen? ⟨w.heap.size + 1 + 1, 6, none⟩ = false ∧ w1.cell? ⟨w.heap.size + 1 + 1, 7, none⟩ = some (.bool false) ∧ w1.frozen? ⟨w.heap.size + 1 + 1, 7, none⟩ = false ∧ w1.cell? ⟨w.heap.size + 1 + 1, 8, none⟩ = some (.bool false) ∧ w1.frozen? ⟨w.heap.size + 1 + 1, 8, none⟩ = false ∧ w1.cell? ⟨w.heap.size + 1 + 1, 9, none⟩ = some (.bool false) ∧ w1.frozen? ⟨w.heap.size + 1 + 1, 9, none⟩ = false := by
      refine ⟨?_, ?_, ?_, ?_, ?_, ?_, ?_, ?_, ?_, ?_, ?_, ?_, ?_, ?_, ?_, ?_, ?_, ?_, ?_, ?_⟩ <;> first | (refine kc hb ?_ <;> (go_simp; first | done | rfl)) | (refine kfz hb ?_ ?_ <;> first | (go_size; done) | (go_simp; done))
  have hz := hb.size
  (try simp only [World.size_alloc, World.size_setCell, World.size_drew] at hz)
  have hlr' : w.heap.size + 1 + 1 < w1.heap.size := by omega
  have hB' : Below w.heap.size w w1 := by
      refine kb ?_ hb
      go_grown
  clear hb hz
  obtain ⟨hr_0, fr_0, hr_1, fr_1, hr_2, fr_2, hr_3, fr_3, hr_4, fr_4, hr_5, fr_5, hr_6, fr_6, hr_7, fr_7, hr_8, fr_8, hr_9, fr_9⟩ := T
  have hlr := hlr'; clear hlr'
  have hnr0 : ¬ (w.heap.size + 1 + 1 = w1.heap.size) := by omega
  have hnr1 : ¬ (w.heap.size + 1 = w1.heap.size) := by omega
  have hkr1 : w.heap.size + 1 < w1.heap.size := by omega
  have hnr2 : ¬ (w.heap.size = w1.heap.size) := by omega
  have hkr2 : w.heap.size < w1.heap.size := by omega
  have hB := hB'; clear hB'
  have hsz := hB.size
  have hn0 : ¬ w.heap.size + 1 + 1 = w1.heap.size := hnr0
  go_upto_region 3 with fail
  refine wp_pin (fun w' => w'.cell? ⟨w.heap.size + 1 + 1, 0, none⟩ = some (.int .u8 0) ∧ w'.frozen? ⟨w.heap.size + 1 + 1, 0, none⟩ = false ∧ w'.cell? ⟨w.heap.size + 1 + 1, 1, none⟩ = some (.int .u8 0) ∧ w'.frozen? ⟨w.heap.size + 1 + 1, 1, none⟩ = false ∧ w'.cell? ⟨w.heap.size + 1 + 1, 2, none⟩ = some (.bool false) ∧ w'.frozen? ⟨w.heap.size + 1 + 1, 2, none⟩ = false ∧ w'.cell? ⟨w.heap.size + 1 + 1, 3, none⟩ = some (.bool false) ∧ w'.frozen? ⟨w.heap.size + 1 + 1, 3, none⟩ = false ∧ w'.cell? ⟨w.heap.size + 1 + 1, 4, none⟩ = some (.bool false) ∧ w'.frozen? ⟨w.heap.size + 1 + 1, 4, none⟩ = false ∧ w'.cell? ⟨w.heap.size + 1 + 1, 5, none⟩ = some (.bool false) ∧ w'.frozen? ⟨w.heap.size + 1 + 1, 5, none⟩ = false ∧ w'.cell? ⟨w.heap.size + 1 + 1, 6, none⟩ = some (.bool false) ∧ w'.frozen? ⟨w.heap.size + 1 + 1, 6, none⟩ = false ∧ w'.cell? ⟨w.heap.size + 1 + 1, 7, none⟩ = some (.bool false) ∧ w'.frozen? ⟨w.heap.size + 1 + 1, 7, none⟩ = false ∧ w'.cell? ⟨w.heap.size + 1 + 1, 8, none⟩ = some (.bool false) ∧ w'.frozen? ⟨w.heap.size + 1 + 1, 8, none⟩ = false ∧ w'.cell? ⟨w.heap.size + 1 + 1, 9, none⟩ = some (.bool false) ∧ w'.frozen? ⟨w.heap.size + 1 + 1, 9, none⟩ = false ∧ w'.cell? ⟨w1.heap.size, 0, none⟩ = some (B8 (cmpV x y).a) ∧ w'.cell? ⟨w1.heap.size, 1, none⟩ = some (B8 (cmpT t s (cmpV x y).a).t) ∧ w'.cell? ⟨w1.heap.size, 2, none⟩ = some (.bool (cmpV x y).n) ∧ w'.cell? ⟨w1.heap.size, 3, none⟩ = some (.bool (cmpT t s (cmpV x y).a).n) ∧ w'.cell? ⟨w1.heap.size, 4, none⟩ = some (.bool false) ∧ w'.cell? ⟨w1.heap.size, 5, none⟩ = some (.bool false) ∧ w'.cell? ⟨w1.heap.size, 6, none⟩ = some (.bool (cmpV x y).z) ∧ w'.cell? ⟨w1.heap.size, 7, none⟩ = some (.bool (cmpT t s (cmpV x y).a).z) ∧ w'.cell? ⟨w1.heap.size, 8, none⟩ = some (.bool (cmpV x y).c) ∧ w'.cell? ⟨w1.heap.size, 9, none⟩ = some (.bool (cmpT t s (cmpV x y).a).c) ∧ Below w.heap.size w w') ?_ ?_
  · (try dsimp only)
    refine ⟨?_, ?_, ?_, ?_, ?_, ?_, ?_, ?_, ?_, ?_, ?_, ?_, ?_, ?_, ?_, ?_, ?_, ?_, ?_, ?_, ?_, ?_, ?_, ?_, ?_, ?_, ?_, ?_, ?_, ?_, ?_⟩ <;> first | (go_simp; done) | (simp [*]; done) | go_grown
  intro w2 T
  (try dsimp only at T)
  clear hr_0 fr_0 hr_1 fr_1 hr_2 fr_2 hr_3 fr_3 hr_4 fr_4 hr_5 fr_5 hr_6 fr_6 hr_7 fr_7 hr_8 fr_8 hr_9 fr_9 hlr hnr0 hnr1 hkr1 hnr2 hkr2 hB hsz
  obtain ⟨hr_0, fr_0, hr_1, fr_1, hr_2, fr_2, hr_3, fr_3, hr_4, fr_4, hr_5, fr_5, hr_6, fr_6, hr_7, fr_7, hr_8, fr_8, hr_9, fr_9, hq_0, hq_1, hq_2, hq_3, hq_4, hq_5, hq_6, hq_7, hq_8, hq_9, hB⟩ := T
  have hsz := hB.size
  have hlr := klt hr_0
  have hlq := klt hq_0
  have hnr0 : ¬ (w.heap.size + 1 + 1 = w2.heap.size) := by omega
  have hnr1 : ¬ (w.heap.size + 1 = w2.heap.size) := by omega
  have hkr1 : w.heap.size + 1 < w2.heap.size := by omega
  have hnr2 : ¬ (w.heap.size = w2.heap.size) := by omega
  have hkr2 : w.heap.size < w2.heap.size := by omega
  have hnq0 : ¬ (w1.heap.size = w2.heap.size) := by omega
  have hnq1 : ¬ (w1.heap.size = w2.heap.size + 1) := by omega
  have hkq1 : w1.heap.size < w2.heap.size + 1 := by omega
  have hnq2 : ¬ (w1.heap.size = w2.heap.size + 1 + 1) := by omega
  have hkq2 : w1.heap.size < w2.heap.size + 1 + 1 := by omega
  go_wp2
  refine bodyPost_ret (v := VS (cmpV x y) (cmpT t s (cmpV x y).a)) (by simp [results, Try.results18, go_sem, hr_0, hr_1, hr_2, hr_3, hr_4, hr_5, hr_6, hr_7, hr_8, hr_9, cmpV_v, cmpT_v] <;> first | done | rfl | exact dec_eq Iff.rfl) rfl ⟨rfl, by go_grown⟩

theorem modS_r (x : BitVec 8) (n M : Int) (hM : n.tmod 256 = M) (w : World) : Calls Try.prog 40 #[.int .i64 (u8 x + M), .int .i64 256] w fun e w' => e = .returned (.int .i64 (u8 (stepV x n))) ∧ Below w.heap.size w w' := by
  have x1 := u8_lo x
  have x2 := u8_hi x
  have h1 : -256 < n.tmod 256 := Int.lt_tmod_of_pos n (by omega)
  have h2 : n.tmod 256 < 256 := Int.tmod_lt_of_pos n (by omega)
  refine (modulo_r (u8 x + M) 256 (by omega) (by omega) (by omega) (by omega) w).mono fun _ _ ⟨h3, h4⟩ => ⟨?_, by subst h4; exact Below.refl _ _⟩
  rw [h3]
  have e : (u8 x + M) % 256 = u8 (stepV x n) := by
    unfold stepV
    rw [← u8_byte]
    have h5 := Int.mul_tdiv_add_tmod n 256
    omega
  rw [e]
set_option maxRecDepth 100000 in
set_option maxHeartbeats 1000000 in
theorem rstep_n (x t : BitVec 8) (n : Int) (w : World) : Calls Try.prog 20 #[TB x t, .int .i64 n] w fun e w' =>
    e = .returned (TB (stepV x n) (spr t)) ∧ Below w.heap.size w w' := by
  obtain ⟨M, eM⟩ : ∃ M, n.tmod 256 = M := ⟨_, rfl⟩
  have x1 := u8_lo x
  have x2 := u8_hi x
  have h1 : -256 < n.tmod 256 := Int.lt_tmod_of_pos n (by omega)
  have h2 : n.tmod 256 < 256 := Int.tmod_lt_of_pos n (by omega)
  rw [eM] at h1 h2
  have k1 := i64_u8
  have k2 := u8_wrap
  have k3 : IntKind.i64.wrap M = M := IntWalk.i64_in _ (by omega)
  have k4 : IntKind.i64.wrap (u8 x + M) = u8 x + M := IntWalk.i64_in _ (by omega)
  have HM := Lib.hid eM
  go_enter Try.func20, Try.ntmps20
  go_wp2_with fail
  refine wp_region_planT 14 (fun w' => w'.cell? ⟨w.heap.size, 0, none⟩ = some (B8 x) ∧ w'.cell? ⟨w.heap.size, 1, none⟩ = some (B8 t) ∧ w'.cell? ⟨w.heap.size + 1, 0, none⟩ = some (.int .u8 0) ∧ w'.frozen? ⟨w.heap.size + 1, 0, none⟩ = false ∧ w'.cell? ⟨w.heap.size + 1, 1, none⟩ = some (.int .u8 0) ∧ w'.frozen? ⟨w.heap.size + 1, 1, none⟩ = false ∧ Below w.heap.size w w') (by kernel_rfl) (by kernel_rfl) (by kernel_rfl) (by kernel_rfl) ?_ ?_
  · (try dsimp only)
    refine ⟨?_, ?_, ?_, ?_, ?_, ?_, ?_⟩ <;> first | (go_simp; done) | (simp [*]; done) | go_grown
  (try simp only [List.append_eq, List.cons_append, List.nil_append, List.toList_toArray, List.take_succ_cons, List.take_zero, List.drop_succ_cons, List.drop_zero])
  repeat (first
    | (refine Plan.val (v := ?_) ?_ ?_ ?_; rotate_left; (· rfl); (· (intro W hSw; (try dsimp only at hSw); go_simp; all_goals (first | (with_reducible rfl) | (constructor <;> (with_reducible rfl))))); (try simp only [Act.put, List.setIfInBounds_toArray, List.set_cons_zero, List.set_cons_succ]))
    | (refine Plan.no ?_ ?_; (· rfl); (try simp only [Act.put, List.setIfInBounds_toArray, List.set_cons_zero, List.set_cons_succ]))
    | (refine Plan.call (v := ?_) (f := ?_) (args := ?_) ?_ ?_ ?_ ?_; rotate_left 3; (· rfl); (· (intro W hSw; (try dsimp only at hSw); go_simp; all_goals (first | (with_reducible rfl) | (constructor <;> (with_reducible rfl))))); (· (intro W hSw; (try dsimp only at hSw); first | (go_at_call 40; ((with_reducible refine (modS_r x n M HM.out _).mono ?_); rintro _ wz ⟨rfl, hb⟩; (refine ⟨?_, ?_⟩; (· with_reducible rfl); exact ⟨kc hb hSw.1, kc hb hSw.2.1, kc hb hSw.2.2.1, kfz hb (klt hSw.2.2.1) hSw.2.2.2.1, kc hb hSw.2.2.2.2.1, kfz hb (klt hSw.2.2.2.2.1) hSw.2.2.2.2.2.1, kb hSw.2.2.2.2.2.2 hb⟩))) | (go_at_call 41; ((with_reducible refine (spread_b _ _).mono ?_); rintro _ wz ⟨rfl, hb⟩; (refine ⟨?_, ?_⟩; (· with_reducible rfl); exact ⟨kc hb hSw.1, kc hb hSw.2.1, kc hb hSw.2.2.1, kfz hb (klt hSw.2.2.1) hSw.2.2.2.1, kc hb hSw.2.2.2.2.1, kfz hb (klt hSw.2.2.2.2.1) hSw.2.2.2.2.2.1, kb hSw.2.2.2.2.2.2 hb⟩))))); (try simp only [Act.put, List.setIfInBounds_toArray, List.set_cons_zero, List.set_cons_succ])))
  refine Plan.done ?_
  intro w1 T
  (try dsimp only at T)
  obtain ⟨ha_0, ha_1, hr_0, fr_0, hr_1, fr_1, hB⟩ := T
  have hsz := hB.size
  have hla := klt ha_0
  have hlr := klt hr_0
  have hna0 : ¬ (w.heap.size = w1.heap.size) := by omega
  have hna1 : ¬ (w.heap.size = w1.heap.size + 1) := by omega
  have hka1 : w.heap.size < w1.heap.size + 1 := by omega
  have hna2 : ¬ (w.heap.size = w1.heap.size + 1 + 1) := by omega
  have hka2 : w.heap.size < w1.heap.size + 1 + 1 := by omega
  have hnr0 : ¬ (w.heap.size + 1 = w1.heap.size) := by omega
  have hkr1 : w.heap.size < w1.heap.size := by omega
  go_wp2
  refine bodyPost_ret (v := TB _ _) (by simp [results, Try.results20, go_sem, hr_0, hr_1] <;> first | done | rfl | exact dec_eq Iff.rfl) rfl ⟨rfl, by go_grown⟩

set_option maxRecDepth 100000 in
set_option maxHeartbeats 1000000 in
theorem same_s (s : SV) (t : ST) (w : World) : Calls Try.prog 11 #[VS s t, VS s t] w fun e w' => e = .returned (.bool true) ∧ Below w.heap.size w w' := by
  go_enter Try.func11, Try.ntmps11
  go_wp2
  go_ret
  exact ⟨by simp, by go_grown⟩
end Go.Proofs.Ytdmgdldadpkhgaa
