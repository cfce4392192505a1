/-
  The letters of a text, and of a row's name.
-/
import Derived.Test.YtcplegelppfdeaaDoorPlain
set_option linter.unusedSimpArgs false
set_option linter.unusedVariables false
namespace Go.Proofs.YtcplegelppfdeaaDoor
open Go.RowKit Go.PlainAid

/-- The letters of a text. -/
abbrev lets (s : ByteArray) : List UInt8 := s.data.toList
theorem name_lets (r : Nat) (hr : r < 56) : lets (nameD r) = nameL.getD r [] := name_list ⟨r, hr⟩
end Go.Proofs.YtcplegelppfdeaaDoor
