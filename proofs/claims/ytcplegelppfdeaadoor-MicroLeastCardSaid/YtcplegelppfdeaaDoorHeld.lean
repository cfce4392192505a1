/-
  What a call leaves that only makes memory: facts on cells, sizes and the frame, carried over it.
-/
import Derived.Test.YtcplegelppfdeaaDoorLawKit
set_option linter.unusedSimpArgs false
set_option linter.unusedVariables false
namespace Go.Proofs.YtcplegelppfdeaaDoor
open Go.RowKit

theorem kc {W w1 : World} (hb : Below W.heap.size W w1) {b o : Nat} {v : Value} (h : W.cell? ⟨b, o, none⟩ = some v) : w1.cell? ⟨b, o, none⟩ = some v := by
  refine (hb.cell (p := ⟨b, o, none⟩) ?_).trans h
  show b < W.heap.size
  unfold World.cell? at h
  by_cases hlt : b < W.heap.size
  · exact hlt
  · rw [Array.getElem?_eq_none (by show W.heap.size ≤ b; omega)] at h
    cases h
theorem klt {W : World} {b o : Nat} {v : Value} (h : W.cell? ⟨b, o, none⟩ = some v) : b < W.heap.size := by
  unfold World.cell? at h
  by_cases hlt : b < W.heap.size
  · exact hlt
  · rw [Array.getElem?_eq_none (by show W.heap.size ≤ b; omega)] at h
    cases h
theorem kb {w W w1 : World} (h : Below w.heap.size w W) (hb : Below W.heap.size W w1) : Below w.heap.size w w1 := h.trans (hb.mono h.size)
theorem kl {W w1 : World} (hb : Below W.heap.size W w1) {n : Nat} (h : n < W.heap.size) : n < w1.heap.size := Nat.lt_of_lt_of_le h hb.size
theorem kbn {n : Nat} {w W w1 : World} (hn : n ≤ w.heap.size) (h : Below n w W) (hb : Below W.heap.size W w1) : Below n w w1 := h.trans (hb.mono (Nat.le_trans hn h.size))
/-- The world gets a name: of it is known what S says. -/
theorem wp_pin {P : Program} {c : Code} {Q : Exit → Act → World → Prop} {a : Act} {w : World} (S : World → Prop) (hS : S w) (h : ∀ W, S W → c.wp P Q a W) : c.wp P Q a w := h w hS
end Go.Proofs.YtcplegelppfdeaaDoor
