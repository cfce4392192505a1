/-
  What the document's answer of layer 1 comes to, call by call: power, Has, May, Same, Zero, Spread, Bit.
-/
import Derived.Test.YtdmgdldadpkhgaaRefBits
import Derived.Test.YtdmgdldadpkhgaaPlanT
set_option linter.unusedSimpArgs false
set_option linter.unusedVariables false
namespace Go.Proofs.Ytdmgdldadpkhgaa
open Go.RowKit

theorem ret_i64 {a b : Int} (h : a = b) : Ending.returned (.int .i64 a) = .returned (.int .i64 b) := by rw [h]
theorem i64_u8 (x : BitVec 8) : IntKind.i64.wrap (u8 x) = u8 x := IntWalk.i64_in _ (by have := u8_lo x; have := u8_hi x; omega)
theorem ret_bool {a b : Bool} (h : a = b) : Ending.returned (.bool a) = .returned (.bool b) := by rw [h]

set_option maxHeartbeats 400000 in
theorem power_c (i : Nat) (h : i ≤ 8) (w : World) : Calls Try.prog 55 #[.int .i64 i] w fun e w' => e = .returned (.int .i64 (pw i)) ∧ w = w' := by
  go_enter Try.func55, Try.ntmps55
  go_wp2
  go_loop [3, 4] (fun o k => ∃ j : Nat, j ≤ i ∧ k = .int .i64 j ∧ o = .int .i64 (pw j)) (fun _ k => i - (intOf k).toNat)
  case atStart => exact ⟨0, by omega, rfl, rfl⟩
  case round =>
    obtain ⟨j, hj, rfl, rfl⟩ := hrel
    have h1 := pw_lo j
    have h2 := pw_hi j (by omega)
    by_cases hlt : j < i
    · go_wp2
      go_round
      case rel => exact ⟨j + 1, by omega, by go_num, rfl⟩
      case measure => simp [intOf]; omega
    · go_wp2
      go_ret
      exact ⟨ret_i64 (by rw [show j = i by omega]), rfl⟩

set_option maxHeartbeats 400000 in
theorem has_c (x : BitVec 8) (i : Nat) (h : i < 8) (w : World) : Calls Try.prog 54 #[.int .i64 (u8 x), .int .i64 i] w fun e w' => e = .returned (.bool (bitAt x i)) ∧ w = w' := by
  have h1 := pw_lo i
  have h2 := pw_hi i (by omega)
  have h3 := u8_lo x
  have h4 := u8_hi x
  have h5 : (pw i == 0) = false := by rw [beq_eq_false_iff_ne]; omega
  go_enter Try.func54, Try.ntmps54
  go_wp2_with (go_at_call 55; refine (power_c i (by omega) _).mono ?_; rintro _ _ ⟨rfl, rfl⟩)
  go_ret
  exact ⟨ret_bool (by rw [Int.tmod_eq_emod_of_nonneg (Int.ediv_nonneg h3 (by omega)), has_bit x i h]), rfl⟩

set_option maxHeartbeats 400000 in
theorem may_c (x t : BitVec 8) (i : Nat) (h : i < 8) (w : World) : Calls Try.prog 58 #[TB x t, .int .i64 i] w fun e w' => e = .returned (.agg #[.bool (m0 x t i), .bool (m1 x t i)]) ∧ Below w.heap.size w w' := by
  have h1 := u8_lo x
  have h2 := u8_hi x
  have h3 := u8_lo t
  have h4 := u8_hi t
  cases hb : bitAt x i
  all_goals
    go_enter Try.func58, Try.ntmps58
    go_wp2_with (go_at_call 54; ((with_reducible refine (has_c _ i h _).mono ?_); rintro _ _ ⟨rfl, rfl⟩))
    refine bodyPost_ret (v := .agg #[_, _]) (by simp [results, Try.results58, go_sem, m0, m1, hb] <;> first | done | rfl | exact dec_eq Iff.rfl) rfl ⟨rfl, by go_grown⟩

theorem has_b (x : BitVec 8) (i : Nat) (h : i < 8) (w : World) : Calls Try.prog 54 #[.int .i64 (u8 x), .int .i64 i] w fun e w' => e = .returned (.bool (bitAt x i)) ∧ Below w.heap.size w w' :=
  (has_c x i h w).mono fun _ _ ⟨h1, h2⟩ => ⟨h1, by subst h2; exact Below.refl _ _⟩

end Go.Proofs.Ytdmgdldadpkhgaa
