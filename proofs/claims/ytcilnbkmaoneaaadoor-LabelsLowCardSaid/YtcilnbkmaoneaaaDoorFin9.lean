/-
  Behind a range over All's iterator: how the law's call ends.
-/
import Derived.Test.YtcilnbkmaoneaaaDoorPolt9
set_option linter.unusedSimpArgs false
set_option linter.unusedVariables false
namespace Go.Proofs.YtcilnbkmaoneaaaDoor
open Go.RowKit Go.PlainAid Go.Shelf

/-- The result's cell, the range's record, what is as it was. -/
structure FinR (w : World) (R Dd : Nat) (v : Value) (W : World) : Prop where
  c : W.cell? ⟨R, 0, none⟩ = some v
  f : W.frozen? ⟨R, 0, none⟩ = false
  d : W.heap[Dd]? = some (.deferred (some []))
  b : Below w.heap.size w W
theorem FinR.below {w W U : World} {R Dd : Nat} {v : Value} (h : FinR w R Dd v W) (hb : Below W.heap.size W U) : FinR w R Dd v U :=
  ⟨kc hb h.c, kfz hb (klt h.c) h.f, (hb.block Dd (Array.getElem?_eq_some_iff.1 h.d).1).trans h.d, h.b.trans (hb.mono h.b.size)⟩
theorem FinR.over {w W : World} {R Dd : Nat} {v : Value} (h : FinR w R Dd v W) (hD : w.heap.size ≤ Dd) :
    (W.putObj Dd (.deferred none)).cell? ⟨R, 0, none⟩ = some v ∧ Below w.heap.size w (W.putObj Dd (.deferred none)) := by
  have d3 := cell_kept h.c (grownBy_putObj' _ Dd (.deferred none)) (fun r e => by cases e; exact ⟨_, h.d, rfl⟩)
  exact ⟨d3, h.b.trans (belowK_b (w := w) (Nat.le_refl _) W Dd _ _ hD h.d rfl rfl)⟩
theorem FinR.set {w W : World} {R Dd : Nat} {v : Value} (h : FinR w R Dd v W) (hR : w.heap.size ≤ R) (u : Value) : FinR w R Dd u (W.setCell ⟨R, 0, none⟩ u) :=
  ⟨World.cell?_setCell_same _ _ _ h.c, by rw [World.frozen?_setCell]; exact h.f, (KeepsOthers.setCell W ⟨R, 0, none⟩ u).same Dd _ h.d rfl, h.b.setCell (p := ⟨R, 0, none⟩) hR _⟩
/-- The result's cell, and what is as it was, as an exit of the body leaves it. -/
def OutR (w : World) (R : Nat) (v : Value) (W : World) : Prop := (W.cell? ⟨R, 0, none⟩ = some v ∧ W.frozen? ⟨R, 0, none⟩ = false) ∧ Below w.heap.size w W
theorem OutR.own {β : Type} {w : World} {R N : Nat} (v : Value) (hN : w.heap.size ≤ N) : OwnFrom N (fun (_ : β) W => OutR w R v W) :=
  OwnFrom.and (Own.from (fun s A C row ⟨h1, g1⟩ hg hr => ⟨cell_kept h1 hg hr, (frozen_kept h1 hg hr).trans g1⟩) _) (ownFrom_below (Nat.le_refl _) hN)
end Go.Proofs.YtcilnbkmaoneaaaDoor
