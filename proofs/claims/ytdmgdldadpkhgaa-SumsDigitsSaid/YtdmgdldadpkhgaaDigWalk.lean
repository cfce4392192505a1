/-
  SumsDigits returns true: the walk.
-/
import Derived.Test.YtdmgdldadpkhgaaDigF
import Derived.Test.YtdmgdldadpkhgaaDigT
import Derived.Test.YtdmgdldadpkhgaaPlanA
set_option linter.unusedSimpArgs false
set_option linter.unusedVariables false
namespace Go.Proofs.Ytdmgdldadpkhgaa
open Go.RowKit


theorem dig_walk (m : Int) (hl : -9223372036854775808 ≤ m) (hh : m ≤ 9223372036854775807) (n : Int) (hl' : -9223372036854775808 ≤ n) (hh' : n ≤ 9223372036854775807) (c : Bool) (w : World) :
    Calls Try.prog 8 #[.int .i64 m, .int .i64 n, .bool c] w (LawEnd w) := by
  by_cases h : m < 0 ∨ ¬ m < 0 ∧ 99 < m ∨ ¬ m < 0 ∧ ¬ 99 < m ∧ n < 0 ∨ ¬ m < 0 ∧ ¬ 99 < m ∧ ¬ n < 0 ∧ 99 < n
  · exact dig_out m n c h w
  · have e1 := dig_add m n c (by omega) (by omega) (by omega) (by omega)
    have e2 := dig_sub m n c (by omega) (by omega) (by omega) (by omega)
    cases c
    · have s1 : m + n + cnt false = m + n := by simp [cnt]
      have s2 : m - n - (1 - cnt false) = m - n - 1 := by simp [cnt]
      rw [s1] at e1
      rw [s2] at e2
      exact dig_false m n _ _ _ _ _ _ _ _ _ _ _ _ _ _ (by omega) (by omega) (by omega) (by omega) rfl rfl e1.2 e2.2 e1.1.symm e2.1.symm rfl rfl (add_q _ _ _) (sub_q _ _ _) w
    · have s1 : m + n + cnt true = m + n + 1 := by simp [cnt]
      have s2 : m - n - (1 - cnt true) = m - n := by simp [cnt]
      rw [s1] at e1
      rw [s2] at e2
      exact dig_true m n _ _ _ _ _ _ _ _ _ _ _ _ _ _ (by omega) (by omega) (by omega) (by omega) rfl rfl e1.2 e2.2 e1.1.symm e2.1.symm rfl rfl (add_q _ _ _) (sub_q _ _ _) w
end Go.Proofs.Ytdmgdldadpkhgaa
