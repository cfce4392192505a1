/-
  How many bytes a mode has: the program's answer.
-/
import Derived.Test.YtpjpoopgafcedaaGreatDoorTab
set_option linter.unusedSimpArgs false
set_option linter.unusedVariables false
namespace Go.Proofs.YtpjpoopgafcedaaGreatDoor
open Go.RowKit Go.PlainAid

/-- How many bytes a mode has. -/
def lenD (m : Int) : Int := if m = 0 ∨ m = 1 then 1 else if m = 6 ∨ m = 7 ∨ m = 8 ∨ m = 11 then 3 else if 0 ≤ m ∧ m ≤ 12 then 2 else 0
set_option maxRecDepth 100000 in
set_option maxHeartbeats 1000000 in
theorem lenp_c (m : Int) (w : World) : Calls Tryz.prog 17 #[.int .i64 m] w fun e w' => e = .returned (.int .i64 (lenD m)) ∧ Below w.heap.size w w' := by
  rcases modes m with h | h
  · rcases h with rfl | rfl | rfl | rfl | rfl | rfl | rfl | rfl | rfl | rfl | rfl | rfl | rfl
    all_goals
      go_enter Tryz.func17, Tryz.ntmps17
      go_wp2
      go_ret
      exact ⟨ret_i64 (by decide), by go_grown⟩
  · have a : ∀ j : Int, 0 ≤ j → j ≤ 12 → (m == j) = false := fun j h0 h1 => by rw [beq_eq_false_iff_ne]; omega
    have a0 := a 0 (by decide) (by decide)
    have a1 := a 1 (by decide) (by decide)
    have a2 := a 2 (by decide) (by decide)
    have a3 := a 3 (by decide) (by decide)
    have a4 := a 4 (by decide) (by decide)
    have a5 := a 5 (by decide) (by decide)
    have a6 := a 6 (by decide) (by decide)
    have a7 := a 7 (by decide) (by decide)
    have a8 := a 8 (by decide) (by decide)
    have a9 := a 9 (by decide) (by decide)
    have a10 := a 10 (by decide) (by decide)
    have a11 := a 11 (by decide) (by decide)
    have a12 := a 12 (by decide) (by decide)
    have e : lenD m = 0 := by
      unfold lenD
      rw [if_neg (by omega), if_neg (by omega), if_neg (by omega)]
    have HE := Lib.hid e
    clear e h a
    go_enter Tryz.func17, Tryz.ntmps17
    go_wp2
    go_ret
    exact ⟨ret_i64 HE.out.symm, by go_grown⟩
end Go.Proofs.YtpjpoopgafcedaaGreatDoor
