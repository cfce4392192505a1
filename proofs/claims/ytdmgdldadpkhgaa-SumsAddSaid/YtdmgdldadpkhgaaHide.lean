/-
  What sums.hide comes to: of four bits, and of two.
-/
import Derived.Test.YtdmgdldadpkhgaaVal
import Derived.Test.YtdmgdldadpkhgaaPlanT
import Derived.Test.YtdmgdldadpkhgaaHeld
set_option linter.unusedSimpArgs false
set_option linter.unusedVariables false
namespace Go.Proofs.Ytdmgdldadpkhgaa
open Go.RowKit

set_option maxRecDepth 100000 in
set_option maxHeartbeats 1000000 in
theorem hide4_c (lb sb : Nat) (b0 b1 b2 b3 : Bool) (w : World) (hne : ¬ sb = lb)
    (p0 : w.cell? ⟨lb, 0, none⟩ = some (.pointer (some ⟨sb, 2, none⟩))) (p1 : w.cell? ⟨lb, 1, none⟩ = some (.pointer (some ⟨sb, 4, none⟩)))
    (p2 : w.cell? ⟨lb, 2, none⟩ = some (.pointer (some ⟨sb, 6, none⟩))) (p3 : w.cell? ⟨lb, 3, none⟩ = some (.pointer (some ⟨sb, 8, none⟩)))
    (c0 : w.cell? ⟨sb, 3, none⟩ = some (.bool b0)) (c1 : w.cell? ⟨sb, 5, none⟩ = some (.bool b1)) (c2 : w.cell? ⟨sb, 7, none⟩ = some (.bool b2)) (c3 : w.cell? ⟨sb, 9, none⟩ = some (.bool b3))
    (f0 : w.frozen? ⟨sb, 3, none⟩ = false) (f1 : w.frozen? ⟨sb, 5, none⟩ = false) (f2 : w.frozen? ⟨sb, 7, none⟩ = false) (f3 : w.frozen? ⟨sb, 9, none⟩ = false) :
    Calls Try.prog 44 #[.slice (some ⟨lb, 0, none⟩) 4 4] w fun e w' => e = .returned (.tuple #[]) ∧
      w' = (((w.setCell ⟨sb, 3, none⟩ (.bool true)).setCell ⟨sb, 5, none⟩ (.bool true)).setCell ⟨sb, 7, none⟩ (.bool true)).setCell ⟨sb, 9, none⟩ (.bool true) := by
  have hne' : ¬ lb = sb := fun e => hne e.symm
  go_enter Try.func44, Try.ntmps44
  go_wp2_with fail
  refine wp_loop_rounds 5 ?_
  rw [rounds_succ]
  go_wp2
  rw [rounds_succ]
  go_wp2
  rw [rounds_succ]
  go_wp2
  rw [rounds_succ]
  go_wp2
  rw [rounds_succ]
  go_wp2
  go_end0
  exact ⟨rfl, rfl⟩

set_option maxRecDepth 100000 in
set_option maxHeartbeats 1000000 in
theorem hide2_c (lb sb : Nat) (b0 b1 : Bool) (w : World) (hne : ¬ sb = lb)
    (p0 : w.cell? ⟨lb, 0, none⟩ = some (.pointer (some ⟨sb, 4, none⟩))) (p1 : w.cell? ⟨lb, 1, none⟩ = some (.pointer (some ⟨sb, 8, none⟩)))
    (c0 : w.cell? ⟨sb, 5, none⟩ = some (.bool b0)) (c1 : w.cell? ⟨sb, 9, none⟩ = some (.bool b1))
    (f0 : w.frozen? ⟨sb, 5, none⟩ = false) (f1 : w.frozen? ⟨sb, 9, none⟩ = false) :
    Calls Try.prog 44 #[.slice (some ⟨lb, 0, none⟩) 2 2] w fun e w' => e = .returned (.tuple #[]) ∧
      w' = (w.setCell ⟨sb, 5, none⟩ (.bool true)).setCell ⟨sb, 9, none⟩ (.bool true) := by
  have hne' : ¬ lb = sb := fun e => hne e.symm
  go_enter Try.func44, Try.ntmps44
  go_wp2_with fail
  refine wp_loop_rounds 3 ?_
  rw [rounds_succ]
  go_wp2
  rw [rounds_succ]
  go_wp2
  rw [rounds_succ]
  go_wp2
  go_end0
  exact ⟨rfl, rfl⟩
end Go.Proofs.Ytdmgdldadpkhgaa
