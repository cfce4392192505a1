/-
  An append to a row of a call's own that lies above a bound: all below the bound stays, and the row lies above it still.
-/
import Derived.Test.YtcplegelppfdeaaDoorFrame
set_option linter.unusedSimpArgs false
set_option linter.unusedVariables false
namespace Go.Proofs.YtcplegelppfdeaaDoor
open Go.RowKit Go.PlainAid

theorem Grew.above {N : Nat} {w u w' : World} {v v' : Value} (hg : Grew u w' v v') (hb : Below N w u) (hN : N ≤ w.heap.size) (hv : ∀ g, v.ownBlock = some g → N ≤ g) : Below N w w' ∧ ∀ g, v'.ownBlock = some g → N ≤ g := by
  have hz := hb.size
  refine ⟨Fr.toBelow hb (Fr.ofGrown (F := fun b => N ≤ b) hg.1 (fun b _ e => hv b e)) (fun b h => h) hN, fun g e => ?_⟩
  rcases hg.2 with h1 | ⟨h1, _⟩
  · exact hv g (by rw [← h1]; exact e)
  · rw [h1] at e; have := Option.some.inj e; omega
end Go.Proofs.YtcplegelppfdeaaDoor
