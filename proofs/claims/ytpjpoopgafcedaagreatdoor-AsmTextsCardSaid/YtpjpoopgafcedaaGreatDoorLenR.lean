/-
  Layer 5's document: how many bytes a mode has (cochinealref04.Length), as layer 5 uses it.
-/
import Derived.Test.YtpjpoopgafcedaaGreatDoorTab
set_option linter.unusedSimpArgs false
set_option linter.unusedVariables false
namespace Go.Proofs.YtpjpoopgafcedaaGreatDoor
open Go.RowKit Go.PlainAid

def lenR (m : Int) : Int := if m == 0 || m == 1 then 1 else if m == 6 || (m == 7 || (m == 8 || m == 11)) then 3 else 2
theorem lenr_c (m : Int) (h0 : 0 ≤ m) (h1 : m ≤ 12) (w : World) : Calls Tryz.prog 26 #[.int .i64 m] w fun e w' => e = .returned (.int .i64 (lenR m)) ∧ w = w' := by
  rcases modes m with h | h
  · rcases h with rfl | rfl | rfl | rfl | rfl | rfl | rfl | rfl | rfl | rfl | rfl | rfl | rfl
    all_goals
      go_enter Tryz.func26, Tryz.ntmps26
      go_wp2
      go_ret
      exact ⟨ret_i64 (by decide), rfl⟩
  · exfalso; omega
theorem lenR_ways (m : Int) : lenR m = 1 ∨ lenR m = 2 ∨ lenR m = 3 := by
  unfold lenR; split; exact .inl rfl; split; exact .inr (.inr rfl); exact .inr (.inl rfl)
end Go.Proofs.YtpjpoopgafcedaaGreatDoor
