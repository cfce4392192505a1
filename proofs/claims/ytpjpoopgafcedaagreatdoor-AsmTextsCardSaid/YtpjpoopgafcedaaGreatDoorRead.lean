/-
  Layer 5's document: the line that bytes begin with, at an address.
-/
import Derived.Test.YtpjpoopgafcedaaGreatDoorSame
import Derived.Test.YtpjpoopgafcedaaGreatDoorLenR
set_option linter.unusedSimpArgs false
set_option linter.unusedVariables false
namespace Go.Proofs.YtpjpoopgafcedaaGreatDoor
open Go.RowKit Go.PlainAid Go.Joins

/-- How a call ends that answers a line, how many bytes it took, and an error. -/
def ReadEnd (w : World) (o n k E : Int) : Ending → World → Prop := fun e w' =>
  e = .returned (.tuple #[.agg #[.int .i64 o, .int .i64 n], .int .i64 k, .int .i64 E]) ∧ Below w.heap.size w w'
theorem first_pos {l : List Int} {x : Int} {k : Nat} (h : l[k]? = some x) : k < l.length := by
  by_cases h2 : k < l.length
  · exact h2
  · rw [List.getElem?_eq_none (by omega)] at h; cases h
theorem old_cell {w : World} {b n : Nat} {v : Value} (h : w.cell? ⟨b, n, none⟩ = some v) (o : Obj) : (w.alloc o).cell? ⟨b, n, none⟩ = some v := kc (Below.alloc (Below.refl _ _) (Nat.le_refl _) o) h
theorem two_cells {u : World} {b : Nat} {x y : Value} (h0 : u.cell? ⟨b, 0, none⟩ = some x) (h1 : u.cell? ⟨b, 1, none⟩ = some y) :
    (∀ v v2, ((u.setCell ⟨b, 0, none⟩ v).setCell ⟨b, 1, none⟩ v2).cell? ⟨b, 0, none⟩ = some v) ∧ (∀ v v2, ((u.setCell ⟨b, 0, none⟩ v).setCell ⟨b, 1, none⟩ v2).cell? ⟨b, 1, none⟩ = some v2) ∧ (∀ v, (u.setCell ⟨b, 0, none⟩ v).cell? ⟨b, 0, none⟩ = some v) := by
  have a0 : ∀ v, (u.setCell ⟨b, 0, none⟩ v).cell? ⟨b, 0, none⟩ = some v := fun v => World.cell?_setCell_same u _ v h0
  refine ⟨fun v v2 => ?_, fun v v2 => ?_, a0⟩
  · rw [World.cell?_setCell_other _ _ _ _ (by simp)]; exact a0 v
  · exact World.cell?_setCell_same _ _ v2 ((World.cell?_setCell_other u _ _ v (by simp)).trans h1)
theorem new_cell {w : World} {b n m : Nat} {v : Value} (h : w.cell? ⟨b, n, none⟩ = some v) (o : Obj) (x : Value) : ((w.alloc o).setCell ⟨w.heap.size, m, none⟩ x).cell? ⟨b, n, none⟩ = some v := by
  have hlt := klt h
  rw [World.cell?_setCell_other _ _ _ _ (by intro e; injection e with e1; omega)]
  exact old_cell h o
end Go.Proofs.YtpjpoopgafcedaaGreatDoor
