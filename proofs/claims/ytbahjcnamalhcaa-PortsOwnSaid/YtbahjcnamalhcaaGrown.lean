/-
  What stands behind a call that wrote one block.
-/
import Derived.Test.YtbahjcnamalhcaaBase
set_option linter.unusedSimpArgs false
set_option linter.unusedVariables false
namespace Go.Proofs.Ytbahjcnamalhcaa
open Go.RowKit Go.PlainAid

theorem below_grown2 {w u v : World} {N bb : Nat} (h : Below N w u) (hg : u.grownBy v (some bb)) (hb : N ≤ bb ∧ N ≤ w.heap.size) : Below N w v :=
  ⟨hg.os.trans h.os, hg.tape.trans h.tape, hg.output.trans h.output, Nat.le_trans h.size hg.size, fun b hl => (hg.block b (Nat.lt_of_lt_of_le hl (Nat.le_trans hb.2 h.size)) (by simpa using fun e : b = bb => by omega)).trans (h.block b hl)⟩
/-- Behind a store into the block all others are as they were. -/
theorem grown_cellG {w u : World} {bb o : Nat} {v : Value} (h : w.grownBy u (some bb)) : w.grownBy (u.setCell ⟨bb, o, none⟩ v) (some bb) :=
  ⟨h.os, h.tape, h.output, by rw [World.size_setCell]; exact h.size, fun b hb hne => (heap_setCell_other u ⟨bb, o, none⟩ b v (by simpa using hne)).trans (h.block b hb hne)⟩
theorem grown_belG {w u : World} {g : Option Nat} (h : Below w.heap.size w u) : w.grownBy u g := ⟨h.os, h.tape, h.output, h.size, fun b hb _ => h.block b hb⟩
end Go.Proofs.Ytbahjcnamalhcaa
