/-
  The program: which steps write, and which may be left away.
-/
import Derived.Test.YtcplegelppfdeaaDoorMicroK14
set_option linter.unusedSimpArgs false
set_option linter.unusedVariables false
namespace Go.Proofs.YtcplegelppfdeaaDoor
open Go.RowKit Go.PlainAid

set_option maxRecDepth 100000 in
set_option maxHeartbeats 1000000 in
theorem writesp_c (k : Int) (w : World) : Calls Tryd.prog 15 #[.int .i64 k] w fun e u => e = .returned (.bool (isWr k)) ∧ Below w.heap.size w u := by
  by_cases h0 : k = 10
  · subst h0
    go_enter Tryd.func15, Tryd.ntmps15
    go_wp2
    go_ret
    exact ⟨rfl, by go_grown⟩
  by_cases h1 : k = 11
  · subst h1
    go_enter Tryd.func15, Tryd.ntmps15
    go_wp2
    go_ret
    exact ⟨rfl, by go_grown⟩
  by_cases h2 : k = 12
  · subst h2
    go_enter Tryd.func15, Tryd.ntmps15
    go_wp2
    go_ret
    exact ⟨rfl, by go_grown⟩
  by_cases h3 : k = 14
  · subst h3
    go_enter Tryd.func15, Tryd.ntmps15
    go_wp2
    go_ret
    exact ⟨rfl, by go_grown⟩
  by_cases h4 : k = 15
  · subst h4
    go_enter Tryd.func15, Tryd.ntmps15
    go_wp2
    go_ret
    exact ⟨rfl, by go_grown⟩
  by_cases h5 : k = 16
  · subst h5
    go_enter Tryd.func15, Tryd.ntmps15
    go_wp2
    go_ret
    exact ⟨rfl, by go_grown⟩
  by_cases h6 : k = 17
  · subst h6
    go_enter Tryd.func15, Tryd.ntmps15
    go_wp2
    go_ret
    exact ⟨rfl, by go_grown⟩
  have e : isWr k = false := by unfold isWr wrL; simp [Ne.symm h0, Ne.symm h1, Ne.symm h2, Ne.symm h3, Ne.symm h4, Ne.symm h5, Ne.symm h6]
  rw [e]
  have b0 : (k == 10) = false := by rw [beq_eq_false_iff_ne]; exact h0
  have b1 : (k == 11) = false := by rw [beq_eq_false_iff_ne]; exact h1
  have b2 : (k == 12) = false := by rw [beq_eq_false_iff_ne]; exact h2
  have b3 : (k == 14) = false := by rw [beq_eq_false_iff_ne]; exact h3
  have b4 : (k == 15) = false := by rw [beq_eq_false_iff_ne]; exact h4
  have b5 : (k == 16) = false := by rw [beq_eq_false_iff_ne]; exact h5
  have b6 : (k == 17) = false := by rw [beq_eq_false_iff_ne]; exact h6
  clear h0 h1 h2 h3 h4 h5 h6 e
  go_enter Tryd.func15, Tryd.ntmps15
  go_wp2
  go_ret
  exact ⟨rfl, by go_grown⟩
set_option maxRecDepth 100000 in
set_option maxHeartbeats 1000000 in
theorem mayp_c (k : Int) (w : World) : Calls Tryd.prog 16 #[.int .i64 k] w fun e u => e = .returned (.bool (isMay k)) ∧ Below w.heap.size w u := by
  by_cases h0 : k = 8
  · subst h0
    go_enter Tryd.func16, Tryd.ntmps16
    go_wp2
    go_ret
    exact ⟨rfl, by go_grown⟩
  by_cases h1 : k = 27
  · subst h1
    go_enter Tryd.func16, Tryd.ntmps16
    go_wp2
    go_ret
    exact ⟨rfl, by go_grown⟩
  by_cases h2 : k = 28
  · subst h2
    go_enter Tryd.func16, Tryd.ntmps16
    go_wp2
    go_ret
    exact ⟨rfl, by go_grown⟩
  have e : isMay k = false := by unfold isMay mayL; simp [Ne.symm h0, Ne.symm h1, Ne.symm h2]
  rw [e]
  have b0 : (k == 8) = false := by rw [beq_eq_false_iff_ne]; exact h0
  have b1 : (k == 27) = false := by rw [beq_eq_false_iff_ne]; exact h1
  have b2 : (k == 28) = false := by rw [beq_eq_false_iff_ne]; exact h2
  clear h0 h1 h2 e
  go_enter Tryd.func16, Tryd.ntmps16
  go_wp2
  go_ret
  exact ⟨rfl, by go_grown⟩
end Go.Proofs.YtcplegelppfdeaaDoor
