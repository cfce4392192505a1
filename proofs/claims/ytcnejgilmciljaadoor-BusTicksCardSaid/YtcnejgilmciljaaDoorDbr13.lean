/-
  The document's bus: its rows; Read of its ports (gen13.py, off ports' texts).
-/
import Derived.Test.YtcnejgilmciljaaDoorReadr11
import Derived.Test.YtcnejgilmciljaaDoorAt8
set_option linter.unusedSimpArgs false
set_option linter.unusedVariables false
namespace Go.Proofs.YtcnejgilmciljaaDoor
open Go.RowKit Go.PlainAid

/-- All cells of a block stand as they stood, but for those from lo to hi. -/
def Ek (rb lo hi : Nat) (w u : World) : Prop := ∀ j, j < lo ∨ hi < j → u.cell? ⟨rb, j, none⟩ = w.cell? ⟨rb, j, none⟩ ∧ u.frozen? ⟨rb, j, none⟩ = w.frozen? ⟨rb, j, none⟩
theorem Ek.below {rb lo hi : Nat} {w u : World} (h : rb < w.heap.size) (hb : Below w.heap.size w u) : Ek rb lo hi w u := fun j _ => ⟨(bcell hb).1 _ _ h, (bcell hb).2 _ _ h⟩
theorem Ek.trans {rb lo hi : Nat} {w u v : World} (h : Ek rb lo hi w u) (k : Ek rb lo hi u v) : Ek rb lo hi w v := fun j hj => ⟨(k j hj).1.trans (h j hj).1, (k j hj).2.trans (h j hj).2⟩
theorem Ek.ot {rb o lo hi : Nat} {w u : World} (h : Ot rb o w u) (h1 : lo ≤ o) (h2 : o ≤ hi) : Ek rb lo hi w u := fun j hj => ⟨h.ot j (by omega), h.fz j⟩
end Go.Proofs.YtcnejgilmciljaaDoor
