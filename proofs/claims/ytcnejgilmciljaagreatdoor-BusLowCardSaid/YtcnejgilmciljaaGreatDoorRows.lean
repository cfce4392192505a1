/-
  NARROWER THAN 'FOR EVERY INPUT', by the rows' own cells (each row's printed sentence says how): BusPlays: laid · BusLow: laid · BusKeeps: laid.
  DERIVED. THE GIVEN ROWS OF THIS SEAT. 3 by the template 'for every input the law returns true; each argument reads behind the call as it read before'; 0 by the template 'total and deterministic' (their statements: YtcnejgilmciljaaGreatDoorTotals.lean).
  GIVEN WITH THE SEED: the statements are not yours to turn. If you find one false, say at which input.
  Laid BY PROGRAM, IN A SANDBOX (cutbox-rows.mjs): the forced cells as the released guide's own fill.sh prints them over the translation 04c5d51a6a6384d1… (all of the seat's roots in one cut). By AI agents, Wed Nov 11 2026. No macro, syntax, notation, axiom, sorry.
-/
import Derived.Test.YtcnejgilmciljaaGreatDoorChecked
import GoSem.Claim
import GoSem.ClaimJoined
import GoSem.ClaimMapViews
import Derived.JoinedTies
import Derived.KernelRfl
namespace Go.Proofs.YtcnejgilmciljaaGreatDoor
/- THE CELL 'sum', in the pinned program and in every row, IS THE sha256 OF THE DUMP (.gsa) THAT YtcnejgilmciljaaGreatDoorProg.lean LOADS. Nothing in Lean hashes anything: it is a label: what it is worth is what the hold of that sum in a sandbox is worth. -/
noncomputable def Tryz.pinned : Pinned := { name := "ytcnejgilmciljaagreatdoor", sum := "04c5d51a6a6384d1f7d5d4c002c94ee64ca56819f99b27f48e8406c1782fc2f4", checked := Tryz.checked }
namespace Rows
def none {H : Type} : Left H := { results := [], args := [] }

/- WHAT THE LISTED PACKAGE-LEVEL VARIABLES READ AS WHEN THE CALL BEGINS. Each datum BY PROGRAM (the guide's laid-datum.mjs) off the statement by which the dump's own 'gosem.cut.vars' lays the variable. In a bare row this is a premise. The card (YtcnejgilmciljaaGreatDoorCards.lean) ties it to the program's text. -/
def laid_cochineal_memory_areas {H : Type} : DataW H := .agg [.agg [.lit (.int .i64 1), .lit (.int .i64 0), .lit (.int .i64 32767)], .agg [.lit (.int .i64 2), .lit (.int .i64 32768), .lit (.int .i64 32783)], .agg [.lit (.int .i64 3), .lit (.int .i64 32784), .lit (.int .i64 49151)], .agg [.lit (.int .i64 4), .lit (.int .i64 49152), .lit (.int .i64 65535)]]

/-- 'cochineallaw13.BusPlays': WHATEVER THE INPUT: true; the input reads as it did. -/
def busPlaysSpec : ChangeSpec := { name := "busPlays", fn := fun _ => fun
  | [d1, d2] => { results := [.lit (.bool true)], args := [d1, d2] }
  | _ => none }
def busPlaysRow : OpenClaim := { program := "ytcnejgilmciljaagreatdoor", sum := "04c5d51a6a6384d1f7d5d4c002c94ee64ca56819f99b27f48e8406c1782fc2f4", func := "cochineal/cochineallaw13.BusPlays", spec := "busPlays", inPlace := ["math.archTrunc", "math.Float64bits", "math.Float64frombits"], unfollowed := true, recurses := true, named := ["cochineal/memory.areas"], apart := false, laid := [("cochineal/memory.areas", laid_cochineal_memory_areas)] }
def BusPlaysSaid : Prop := busPlaysRow.holds Tryz.pinned (OpenSpec.ofChange busPlaysSpec)

/-- ITS FALSE NEIGHBOUR: 'it returns false'. Refute it at one input. -/
def busPlaysWrong : ChangeSpec := { name := "busPlays", fn := fun _ => fun
  | [d1, d2] => { results := [.lit (.bool false)], args := [d1, d2] }
  | _ => none }
def BusPlaysWrongFalsely : Prop := busPlaysRow.holds Tryz.pinned (OpenSpec.ofChange busPlaysWrong)

/-- 'cochineallaw13.BusLow': WHATEVER THE INPUT: true; the input reads as it did. -/
def busLowSpec : ChangeSpec := { name := "busLow", fn := fun _ => fun
  | [d1, d2, d3] => { results := [.lit (.bool true)], args := [d1, d2, d3] }
  | _ => none }
def busLowRow : OpenClaim := { program := "ytcnejgilmciljaagreatdoor", sum := "04c5d51a6a6384d1f7d5d4c002c94ee64ca56819f99b27f48e8406c1782fc2f4", func := "cochineal/cochineallaw13.BusLow", spec := "busLow", inPlace := ["math.archTrunc", "math.Float64bits", "math.Float64frombits"], unfollowed := true, recurses := true, named := ["cochineal/memory.areas"], apart := false, laid := [("cochineal/memory.areas", laid_cochineal_memory_areas)] }
def BusLowSaid : Prop := busLowRow.holds Tryz.pinned (OpenSpec.ofChange busLowSpec)

/-- ITS FALSE NEIGHBOUR: 'it returns false'. Refute it at one input. -/
def busLowWrong : ChangeSpec := { name := "busLow", fn := fun _ => fun
  | [d1, d2, d3] => { results := [.lit (.bool false)], args := [d1, d2, d3] }
  | _ => none }
def BusLowWrongFalsely : Prop := busLowRow.holds Tryz.pinned (OpenSpec.ofChange busLowWrong)

/-- 'cochineallaw13.BusKeeps': WHATEVER THE INPUT: true; the input reads as it did. -/
def busKeepsSpec : ChangeSpec := { name := "busKeeps", fn := fun _ => fun
  | [d1, d2, d3] => { results := [.lit (.bool true)], args := [d1, d2, d3] }
  | _ => none }
def busKeepsRow : OpenClaim := { program := "ytcnejgilmciljaagreatdoor", sum := "04c5d51a6a6384d1f7d5d4c002c94ee64ca56819f99b27f48e8406c1782fc2f4", func := "cochineal/cochineallaw13.BusKeeps", spec := "busKeeps", inPlace := ["math.archTrunc", "math.Float64bits", "math.Float64frombits"], unfollowed := true, recurses := true, named := ["cochineal/memory.areas"], apart := false, laid := [("cochineal/memory.areas", laid_cochineal_memory_areas)] }
def BusKeepsSaid : Prop := busKeepsRow.holds Tryz.pinned (OpenSpec.ofChange busKeepsSpec)

/-- ITS FALSE NEIGHBOUR: 'it returns false'. Refute it at one input. -/
def busKeepsWrong : ChangeSpec := { name := "busKeeps", fn := fun _ => fun
  | [d1, d2, d3] => { results := [.lit (.bool false)], args := [d1, d2, d3] }
  | _ => none }
def BusKeepsWrongFalsely : Prop := busKeepsRow.holds Tryz.pinned (OpenSpec.ofChange busKeepsWrong)

/- THE SECOND FORM. 'bulk': how many values and letters a reading holds, each counted each time it is reached (what is shared counts as often as it is met; a slice's spare places count too). A statement '..UptoSaid' is the law's where the arguments, and the package variables that the reading takes, are together of bulk at most 1048576: NARROWER than '..Said'. Prove '..Said' where nothing that the law and all that it calls make is longer than what came in: it says more and counts as full. Else prove '..UptoSaid'. A law counts once. -/
mutual
def uptoBulk {H : Type} : DataW H → Nat
  | .lit (.string bytes) => bytes.length + 1
  | .lit _ => 1
  | .nil => 1
  | .ptr d => uptoBulk d + 1
  | .slice elems spare => uptoBulkAll elems + uptoBulkAll spare + 1
  | .agg parts => uptoBulkAll parts + 1
  | .iface _ d => uptoBulk d + 1
  | .map entries => uptoBulkEntries entries + 1
  | .held _ => 1
def uptoBulkAll {H : Type} : List (DataW H) → Nat
  | [] => 0
  | d :: r => uptoBulk d + uptoBulkAll r
def uptoBulkEntries {H : Type} : List (Lit × DataW H) → Nat
  | [] => 0
  | x :: r => uptoBulkEntry x + uptoBulkEntries r
def uptoBulkEntry {H : Type} : Lit × DataW H → Nat
  | (.string bytes, d) => bytes.length + uptoBulk d + 1
  | (_, d) => uptoBulk d + 1
 end
def uptoSmall : (H : Type) → List (DataW H) → Bool := fun _ ds => decide (uptoBulkAll ds ≤ 1048576)
def OpenSpec.upto (s : _root_.Go.ChangeSpec) : _root_.Go.OpenSpec := { _root_.Go.OpenSpec.ofChange s with cond := some uptoSmall }

/-- 'cochineallaw13.BusPlays', WHERE WHAT IT READS IS OF BULK AT MOST 1048576: true; the input reads as it did. -/
def busPlaysUptoRow : OpenClaim := { program := "ytcnejgilmciljaagreatdoor", sum := "04c5d51a6a6384d1f7d5d4c002c94ee64ca56819f99b27f48e8406c1782fc2f4", func := "cochineal/cochineallaw13.BusPlays", spec := "busPlays", inPlace := ["math.archTrunc", "math.Float64bits", "math.Float64frombits"], unfollowed := true, recurses := true, named := ["cochineal/memory.areas"], apart := false, laid := [("cochineal/memory.areas", laid_cochineal_memory_areas)], narrowed := true }
def BusPlaysUptoSaid : Prop := busPlaysUptoRow.holds Tryz.pinned (OpenSpec.upto busPlaysSpec)

/-- 'cochineallaw13.BusLow', WHERE WHAT IT READS IS OF BULK AT MOST 1048576: true; the input reads as it did. -/
def busLowUptoRow : OpenClaim := { program := "ytcnejgilmciljaagreatdoor", sum := "04c5d51a6a6384d1f7d5d4c002c94ee64ca56819f99b27f48e8406c1782fc2f4", func := "cochineal/cochineallaw13.BusLow", spec := "busLow", inPlace := ["math.archTrunc", "math.Float64bits", "math.Float64frombits"], unfollowed := true, recurses := true, named := ["cochineal/memory.areas"], apart := false, laid := [("cochineal/memory.areas", laid_cochineal_memory_areas)], narrowed := true }
def BusLowUptoSaid : Prop := busLowUptoRow.holds Tryz.pinned (OpenSpec.upto busLowSpec)

/-- 'cochineallaw13.BusKeeps', WHERE WHAT IT READS IS OF BULK AT MOST 1048576: true; the input reads as it did. -/
def busKeepsUptoRow : OpenClaim := { program := "ytcnejgilmciljaagreatdoor", sum := "04c5d51a6a6384d1f7d5d4c002c94ee64ca56819f99b27f48e8406c1782fc2f4", func := "cochineal/cochineallaw13.BusKeeps", spec := "busKeeps", inPlace := ["math.archTrunc", "math.Float64bits", "math.Float64frombits"], unfollowed := true, recurses := true, named := ["cochineal/memory.areas"], apart := false, laid := [("cochineal/memory.areas", laid_cochineal_memory_areas)], narrowed := true }
def BusKeepsUptoSaid : Prop := busKeepsUptoRow.holds Tryz.pinned (OpenSpec.upto busKeepsSpec)

end Rows
end Go.Proofs.YtcnejgilmciljaaGreatDoor
