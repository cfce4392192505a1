/-
  Layer 13's laws: what a setup's bus is; BusTicks.
-/
import Derived.Test.YtcnejgilmciljaaGreatDoorDevs13
import Derived.Test.YtcnejgilmciljaaGreatDoorProgw10
import Derived.Test.YtcnejgilmciljaaGreatDoorSamep8
set_option linter.unusedSimpArgs false
set_option linter.unusedVariables false
namespace Go.Proofs.YtcnejgilmciljaaGreatDoor
open Go.RowKit Go.PlainAid

def inE (x : Int) : List Value := [.int .i64 x]
theorem inE_one (l : List Int) (v : Value) (w : World) (h : HoldsW cE 1 w v l) : HoldsW cE 1 w v l := h
end Go.Proofs.YtcnejgilmciljaaGreatDoor
