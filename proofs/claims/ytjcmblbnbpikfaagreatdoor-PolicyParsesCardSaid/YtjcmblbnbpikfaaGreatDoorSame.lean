/- Layer 7, the program: whether -/
import Derived.Test.YtjcmblbnbpikfaaGreatDoorPol
import Derived.Deep.DeepCutAuto
set_option linter.unusedSimpArgs false
set_option linter.unusedVariables false
namespace Go.Proofs.YtjcmblbnbpikfaaGreatDoor
open Go.RowKit Go.PlainAid

theorem drop_eq_step {l m : List Sp} {k : Nat} (h1 : k < l.length) (h2 : k < m.length) : (l.drop k = m.drop k) ↔ (l[k] = m[k] ∧ l.drop (k + 1) = m.drop (k + 1)) := by
 rw [List.drop_eq_getElem_cons h1, List.drop_eq_getElem_cons h2, List.cons.injEq]
end Go.Proofs.YtjcmblbnbpikfaaGreatDoor
