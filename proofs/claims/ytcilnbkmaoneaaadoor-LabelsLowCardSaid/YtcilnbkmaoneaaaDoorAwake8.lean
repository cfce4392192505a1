/-
  Layer 8's laws: the chapter's examples.
-/
import Derived.Test.YtcilnbkmaoneaaaDoorSamep8
set_option linter.unusedSimpArgs false
set_option linter.unusedVariables false
namespace Go.Proofs.YtcilnbkmaoneaaaDoor
open Go.RowKit Go.PlainAid

/-- Behind a write into a block that is newer than w all of w is as it was. -/
theorem below_grown {w u v : World} {bb : Nat} (h : Below w.heap.size w u) (hg : u.grownBy v (some bb)) (hb : w.heap.size ≤ bb) : Below w.heap.size w v :=
  ⟨hg.os.trans h.os, hg.tape.trans h.tape, hg.output.trans h.output, Nat.le_trans h.size hg.size, fun b hl => (hg.block b (Nat.lt_of_lt_of_le hl h.size) (by simpa using fun e : b = bb => by omega)).trans (h.block b hl)⟩
def zeroM : Int → Int × Int := fun _ => (0, 0)
theorem aw_1 : writeM zeroM 32767 7 0 = (0, setM zeroM 32767 (7, 0)) := by
  unfold writeM
  rw [show kindI 32767 32767 = 1 from by decide]
  rfl
theorem aw_2 (M : Int → Int × Int) : writeM M 49152 7 0 = (0, M) := by
  unfold writeM
  rw [show kindI 49152 49152 = 4 from by decide]
  rfl
theorem aw_3 : prM (setM zeroM 32767 (7, 0)) 32767 = ⟨7, 0, 0⟩ := by
  unfold prM
  rw [show kindI 32767 32767 = 1 from by decide]
  rfl
theorem aw_4 : prM (setM zeroM 32767 (7, 0)) 49152 = ⟨0, 0, 0⟩ := by
  unfold prM
  rw [show kindI 49152 49152 = 4 from by decide]
  rfl
theorem aw_5 (M : Int → Int × Int) : prM M 40000 = ⟨255, 0, 0⟩ := by
  unfold prM
  rw [show kindI 40000 40000 = 3 from by decide]
  rfl
end Go.Proofs.YtcilnbkmaoneaaaDoor
