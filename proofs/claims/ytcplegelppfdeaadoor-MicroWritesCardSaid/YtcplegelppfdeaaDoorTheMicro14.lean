/-
  The program keeps what layer 14's laws lean on.
-/
import Derived.Test.YtcplegelppfdeaaDoorProg14
import Derived.Test.YtcplegelppfdeaaDoorSeqp14
import Derived.Test.YtcplegelppfdeaaDoorKinds14
import Derived.Test.YtcplegelppfdeaaDoorCycp
set_option linter.unusedSimpArgs false
set_option linter.unusedVariables false
namespace Go.Proofs.YtcplegelppfdeaaDoor
open Go.RowKit Go.PlainAid

theorem microOf {LW : World → Prop} (hR : ∀ w, LW w → LaidRw w) (hS : ∀ {w u : World}, LW w → Below w.heap.size w u → LW u) : MicroK LW where
  stay := hS
  prog := fun b hb ho w hL => progp_c b hb ho w (hR w hL)
  noM := fun b hb ho w _ => progp_no b hb ho w
  seq := fun k hk w _ => by
    have hc : k = 0 ∨ k = 1 ∨ k = 2 := by omega
    rcases hc with rfl | rfl | rfl
    · exact seqp_0 w
    · exact seqp_1 w
    · exact seqp_2 w
  seqN := fun k hk w _ => seqp_no k hk w
  writes := fun k w _ => writesp_c k w
  may := fun k w _ => mayp_c k w
theorem theMicro : MicroK LaidRw := microOf (fun _ h => h) (fun h hb => h.below hb)
theorem theMicro2 : MicroK (fun w => LaidRw w ∧ LaidPc w) := microOf (fun _ h => h.1) (fun h hb => ⟨h.1.below hb, h.2.below hb⟩)
end Go.Proofs.YtcplegelppfdeaaDoor
