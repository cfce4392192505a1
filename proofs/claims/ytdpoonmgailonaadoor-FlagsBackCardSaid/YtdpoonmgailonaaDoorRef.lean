/-
  What the document's answer of layer 1 comes to, call by call: power, Has, May, Same, Zero, Spread, Bit.
-/
import Derived.Test.YtdpoonmgailonaaDoorRefBits
import Derived.Test.YtdpoonmgailonaaDoorPlanT
set_option linter.unusedSimpArgs false
set_option linter.unusedVariables false
namespace Go.Proofs.YtdpoonmgailonaaDoor
open Go.RowKit

theorem ret_i64 {a b : Int} (h : a = b) : Ending.returned (.int .i64 a) = .returned (.int .i64 b) := by rw [h]
theorem i64_u8 (x : BitVec 8) : IntKind.i64.wrap (u8 x) = u8 x := IntWalk.i64_in _ (by have := u8_lo x; have := u8_hi x; omega)
theorem ret_bool {a b : Bool} (h : a = b) : Ending.returned (.bool a) = .returned (.bool b) := by rw [h]

set_option maxHeartbeats 400000 in
theorem power_c (i : Nat) (h : i ≤ 8) (w : World) : Calls Tryd.prog 33 #[.int .i64 i] w fun e w' => e = .returned (.int .i64 (pw i)) ∧ w = w' := by
  go_enter Tryd.func33, Tryd.ntmps33
  go_wp2
  go_loop [3, 4] (fun o k => ∃ j : Nat, j ≤ i ∧ k = .int .i64 j ∧ o = .int .i64 (pw j)) (fun _ k => i - (intOf k).toNat)
  case atStart => exact ⟨0, by omega, rfl, rfl⟩
  case round =>
    obtain ⟨j, hj, rfl, rfl⟩ := hrel
    have h1 := pw_lo j
    have h2 := pw_hi j (by omega)
    by_cases hlt : j < i
    · go_wp2
      go_round
      case rel => exact ⟨j + 1, by omega, by go_num, rfl⟩
      case measure => simp [intOf]; omega
    · go_wp2
      go_ret
      exact ⟨ret_i64 (by rw [show j = i by omega]), rfl⟩

set_option maxHeartbeats 400000 in
theorem has_c (x : BitVec 8) (i : Nat) (h : i < 8) (w : World) : Calls Tryd.prog 25 #[.int .i64 (u8 x), .int .i64 i] w fun e w' => e = .returned (.bool (bitAt x i)) ∧ w = w' := by
  have h1 := pw_lo i
  have h2 := pw_hi i (by omega)
  have h3 := u8_lo x
  have h4 := u8_hi x
  have h5 : (pw i == 0) = false := by rw [beq_eq_false_iff_ne]; omega
  go_enter Tryd.func25, Tryd.ntmps25
  go_wp2_with (go_at_call 33; refine (power_c i (by omega) _).mono ?_; rintro _ _ ⟨rfl, rfl⟩)
  go_ret
  exact ⟨ret_bool (by rw [Int.tmod_eq_emod_of_nonneg (Int.ediv_nonneg h3 (by omega)), has_bit x i h]), rfl⟩

set_option maxHeartbeats 400000 in
theorem may_c (x t : BitVec 8) (i : Nat) (h : i < 8) (w : World) : Calls Tryd.prog 36 #[TB x t, .int .i64 i] w fun e w' => e = .returned (.agg #[.bool (m0 x t i), .bool (m1 x t i)]) ∧ Below w.heap.size w w' := by
  have h1 := u8_lo x
  have h2 := u8_hi x
  have h3 := u8_lo t
  have h4 := u8_hi t
  cases hb : bitAt x i
  all_goals
    go_enter Tryd.func36, Tryd.ntmps36
    go_wp2_with (go_at_call 25; ((with_reducible refine (has_c _ i h _).mono ?_); rintro _ _ ⟨rfl, rfl⟩))
    refine bodyPost_ret (v := .agg #[_, _]) (by simp [results, Tryd.results36, go_sem, m0, m1, hb] <;> first | done | rfl | exact dec_eq Iff.rfl) rfl ⟨rfl, by go_grown⟩

theorem has_b (x : BitVec 8) (i : Nat) (h : i < 8) (w : World) : Calls Tryd.prog 25 #[.int .i64 (u8 x), .int .i64 i] w fun e w' => e = .returned (.bool (bitAt x i)) ∧ Below w.heap.size w w' :=
  (has_c x i h w).mono fun _ _ ⟨h1, h2⟩ => ⟨h1, by subst h2; exact Below.refl _ _⟩

set_option maxHeartbeats 400000 in
set_option maxRecDepth 100000 in
theorem rbit_in (x t : BitVec 8) (i : Nat) (h : i < 8) (w : World) : Calls Tryd.prog 9 #[TB x t, .int .i64 i] w fun e w' => e = .returned (TBit (bitAt x i) (bitAt t i)) ∧ Below w.heap.size w w' := by
  have h1 := u8_lo x
  have h2 := u8_hi x
  have h3 := u8_lo t
  have h4 := u8_hi t
  have h5 := i64_u8 x
  have h6 := i64_u8 t
  go_enter Tryd.func9, Tryd.ntmps9
  go_wp2_with fail
  refine wp_region_planT 11 (fun w' => w'.cell? ⟨w.heap.size, 0, none⟩ = some (B8 x) ∧ w'.cell? ⟨w.heap.size, 1, none⟩ = some (B8 t) ∧ w'.cell? ⟨w.heap.size + 1, 0, none⟩ = some (.bool false) ∧ w'.frozen? ⟨w.heap.size + 1, 0, none⟩ = false ∧ w'.cell? ⟨w.heap.size + 1, 1, none⟩ = some (.bool false) ∧ w'.frozen? ⟨w.heap.size + 1, 1, none⟩ = false ∧ Below w.heap.size w w') (by kernel_rfl) (by kernel_rfl) (by kernel_rfl) (by kernel_rfl) ?_ ?_
  · (try dsimp only)
    refine ⟨?_, ?_, ?_, ?_, ?_, ?_, ?_⟩ <;> first | (go_simp; done) | (simp [*]; done) | go_grown
  (try simp only [List.append_eq, List.cons_append, List.nil_append, List.toList_toArray, List.take_succ_cons, List.take_zero, List.drop_succ_cons, List.drop_zero])
  repeat (first
    | (refine Plan.val (v := ?_) ?_ ?_ ?_; rotate_left; (· rfl); (· (intro W hSw; (try dsimp only at hSw); go_simp; all_goals (first | (with_reducible rfl) | (constructor <;> (with_reducible rfl))))); (try simp only [Act.put, List.setIfInBounds_toArray, List.set_cons_zero, List.set_cons_succ]))
    | (refine Plan.no ?_ ?_; (· rfl); (try simp only [Act.put, List.setIfInBounds_toArray, List.set_cons_zero, List.set_cons_succ]))
    | (refine Plan.call (v := ?_) (f := ?_) (args := ?_) ?_ ?_ ?_ ?_; rotate_left 3; (· rfl); (· (intro W hSw; (try dsimp only at hSw); go_simp; all_goals (first | (with_reducible rfl) | (constructor <;> (with_reducible rfl))))); (· (intro W hSw; (try dsimp only at hSw); first | (go_at_call 25; ((with_reducible refine (has_b _ i h _).mono ?_); rintro _ wz ⟨rfl, hb⟩; (refine ⟨?_, ?_⟩; (· with_reducible rfl); exact ⟨kc hb hSw.1, kc hb hSw.2.1, kc hb hSw.2.2.1, kfz hb (klt hSw.2.2.1) hSw.2.2.2.1, kc hb hSw.2.2.2.2.1, kfz hb (klt hSw.2.2.2.2.1) hSw.2.2.2.2.2.1, kb hSw.2.2.2.2.2.2 hb⟩))))); (try simp only [Act.put, List.setIfInBounds_toArray, List.set_cons_zero, List.set_cons_succ])))
  refine Plan.done ?_
  intro w1 T
  (try dsimp only at T)
  obtain ⟨ha_0, ha_1, hr_0, fr_0, hr_1, fr_1, hB⟩ := T
  have hsz := hB.size
  have hla := klt ha_0
  have hlr := klt hr_0
  have hna0 : ¬ (w.heap.size = w1.heap.size) := by omega
  have hna1 : ¬ (w.heap.size = w1.heap.size + 1) := by omega
  have hka1 : w.heap.size < w1.heap.size + 1 := by omega
  have hna2 : ¬ (w.heap.size = w1.heap.size + 1 + 1) := by omega
  have hka2 : w.heap.size < w1.heap.size + 1 + 1 := by omega
  have hnr0 : ¬ (w.heap.size + 1 = w1.heap.size) := by omega
  have hkr1 : w.heap.size < w1.heap.size := by omega
  go_wp2
  refine bodyPost_ret (v := TBit _ _) (by simp [results, Tryd.results9, go_sem, hr_0, hr_1] <;> first | done | rfl | exact dec_eq Iff.rfl) rfl ⟨rfl, by go_grown⟩

set_option maxHeartbeats 400000 in
theorem rbit_out (x t : BitVec 8) (i : Int) (h : i < 0 ∨ 7 < i) (w : World) : Calls Tryd.prog 9 #[TB x t, .int .i64 i] w fun e w' => e = .returned (TBit false false) ∧ Below w.heap.size w w' := by
  by_cases h0 : i < 0
  · go_enter Tryd.func9, Tryd.ntmps9
    go_wp2_with fail
    refine bodyPost_ret (v := TBit _ _) (by simp [results, Tryd.results9, go_sem] <;> first | done | rfl | exact dec_eq Iff.rfl) rfl ⟨rfl, by go_grown⟩
  · have h7 : 7 < i := by omega
    go_enter Tryd.func9, Tryd.ntmps9
    go_wp2_with fail
    refine bodyPost_ret (v := TBit _ _) (by simp [results, Tryd.results9, go_sem] <;> first | done | rfl | exact dec_eq Iff.rfl) rfl ⟨rfl, by go_grown⟩
end Go.Proofs.YtdpoonmgailonaaDoor
