/-
  How many bytes a mode has: the document's answer.
-/
import Derived.Test.YtnigcmicimdphaaLenp
set_option linter.unusedSimpArgs false
set_option linter.unusedVariables false
namespace Go.Proofs.Ytnigcmicimdphaa
open Go.RowKit Go.PlainAid

theorem length_c (m : Int) (w : World) : Calls Try.prog 8 #[.int .i64 m] w fun e w' => e = .returned (.int .i64 (lenD m)) ∧ w = w' := by
  rcases modes m with h | h
  · rcases h with rfl | rfl | rfl | rfl | rfl | rfl | rfl | rfl | rfl | rfl | rfl | rfl | rfl
    all_goals
      go_enter Try.func8, Try.ntmps8
      go_wp2
      go_ret
      exact ⟨ret_i64 (by decide), rfl⟩
  · have a0 : (m == 0) = false := by rw [beq_eq_false_iff_ne]; omega
    have a1 : (m == 1) = false := by rw [beq_eq_false_iff_ne]; omega
    have a6 : (m == 6) = false := by rw [beq_eq_false_iff_ne]; omega
    have a7 : (m == 7) = false := by rw [beq_eq_false_iff_ne]; omega
    have a8 : (m == 8) = false := by rw [beq_eq_false_iff_ne]; omega
    have a11 : (m == 11) = false := by rw [beq_eq_false_iff_ne]; omega
    have e : lenD m = 0 := by
      unfold lenD
      rw [if_neg (by omega), if_neg (by omega), if_neg (by omega)]
    have HE := Lib.hid e
    clear e
    rcases h with h | h
    · have d0 : decide (0 ≤ m) = false := decide_eq_false (by omega)
      clear h
      go_enter Try.func8, Try.ntmps8
      go_wp2
      go_ret
      exact ⟨ret_i64 HE.out.symm, rfl⟩
    · have d0 : decide (0 ≤ m) = true := decide_eq_true (by omega)
      have d1 : decide (m ≤ 12) = false := decide_eq_false (by omega)
      clear h
      go_enter Try.func8, Try.ntmps8
      go_wp2
      go_ret
      exact ⟨ret_i64 HE.out.symm, rfl⟩
end Go.Proofs.Ytnigcmicimdphaa
