/-
  The law's few, and bytes.
-/
import Derived.Test.YtcnejgilmciljaaGreatDoorRef11
import Derived.Deep.LoopGhost
set_option linter.unusedSimpArgs false
set_option linter.unusedVariables false
namespace Go.Proofs.YtcnejgilmciljaaGreatDoor
open Go.RowKit Go.PlainAid

def fewB (p s n : Nat) : Bool := decide (p ≤ 300) && decide (s ≤ 300) && decide (n ≤ 200)
end Go.Proofs.YtcnejgilmciljaaGreatDoor
