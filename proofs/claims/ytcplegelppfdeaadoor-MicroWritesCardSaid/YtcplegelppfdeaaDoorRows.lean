/-
  NARROWER THAN 'FOR EVERY INPUT', by the rows' own cells (each row's printed sentence says how): MicroPrograms: laid · MicroSequences: laid · MicroLeast: laid · MicroOwn: laid · MicroWrites: laid.
  DERIVED. THE GIVEN ROWS OF THIS SEAT. 5 by the template 'for every input the law returns true; each argument reads behind the call as it read before'; 0 by the template 'total and deterministic' (their statements: YtcplegelppfdeaaDoorTotals.lean).
  GIVEN WITH THE SEED: the statements are not yours to turn. If you find one false, say at which input.
  Laid BY PROGRAM, IN A SANDBOX (cutbox-rows.mjs): the forced cells as the released guide's own fill.sh prints them over the translation d51975f0d051b717… (all of the seat's roots in one cut). By AI agents, Wed Nov 11 2026. No macro, syntax, notation, axiom, sorry.
-/
import Derived.Test.YtcplegelppfdeaaDoorChecked
import GoSem.Claim
import GoSem.ClaimJoined
import GoSem.ClaimMapViews
import Derived.JoinedTies
import Derived.KernelRfl
namespace Go.Proofs.YtcplegelppfdeaaDoor
/- THE CELL 'sum', in the pinned program and in every row, IS THE sha256 OF THE DUMP (.gsa) THAT YtcplegelppfdeaaDoorProg.lean LOADS. Nothing in Lean hashes anything: it is a label: what it is worth is what the hold of that sum in a sandbox is worth. -/
noncomputable def Tryd.pinned : Pinned := { name := "ytcplegelppfdeaadoor", sum := "d51975f0d051b717e5dbe03e1ea8d650a70c9eda2d115b476647119e09adffa9", checked := Tryd.checked }
namespace Rows
def none {H : Type} : Left H := { results := [], args := [] }

/- WHAT THE LISTED PACKAGE-LEVEL VARIABLES READ AS WHEN THE CALL BEGINS. Each datum BY PROGRAM (the guide's laid-datum.mjs) off the statement by which the dump's own 'gosem.cut.vars' lays the variable. In a bare row this is a premise. The card (YtcplegelppfdeaaDoorCards.lean) ties it to the program's text. -/
def laid_cochineal_micro_rows {H : Type} : DataW H := .agg [.agg [.agg [.lit (.string []), .lit (.int .i64 2), .lit (.int .i64 1)], .slice [.lit (.int .i64 3)] [], .lit (.int .i64 0)], .agg [.agg [.lit (.string []), .lit (.int .i64 3), .lit (.int .i64 1)], .slice [.lit (.int .i64 1)] [], .lit (.int .i64 1)], .agg [.agg [.lit (.string []), .lit (.int .i64 4), .lit (.int .i64 1)], .slice [.lit (.int .i64 1), .lit (.int .i64 4)] [], .lit (.int .i64 1)], .agg [.agg [.lit (.string []), .lit (.int .i64 5), .lit (.int .i64 1)], .slice [.lit (.int .i64 1), .lit (.int .i64 4)] [], .lit (.int .i64 1)], .agg [.agg [.lit (.string []), .lit (.int .i64 6), .lit (.int .i64 1)], .slice [.lit (.int .i64 1), .lit (.int .i64 2)] [], .lit (.int .i64 1)], .agg [.agg [.lit (.string []), .lit (.int .i64 7), .lit (.int .i64 1)], .slice [.lit (.int .i64 1), .lit (.int .i64 2), .lit (.int .i64 7)] [], .lit (.int .i64 1)], .agg [.agg [.lit (.string []), .lit (.int .i64 8), .lit (.int .i64 1)], .slice [.lit (.int .i64 1), .lit (.int .i64 2), .lit (.int .i64 7)] [], .lit (.int .i64 1)], .agg [.agg [.lit (.string []), .lit (.int .i64 9), .lit (.int .i64 1)], .slice [.lit (.int .i64 1), .lit (.int .i64 4), .lit (.int .i64 5), .lit (.int .i64 6)] [], .lit (.int .i64 1)], .agg [.agg [.lit (.string []), .lit (.int .i64 10), .lit (.int .i64 1)], .slice [.lit (.int .i64 1), .lit (.int .i64 5), .lit (.int .i64 6), .lit (.int .i64 7)] [], .lit (.int .i64 1)], .agg [.agg [.lit (.string []), .lit (.int .i64 3), .lit (.int .i64 2)], .slice [.lit (.int .i64 1)] [], .lit (.int .i64 2)], .agg [.agg [.lit (.string []), .lit (.int .i64 4), .lit (.int .i64 2)], .slice [.lit (.int .i64 1), .lit (.int .i64 4)] [], .lit (.int .i64 2)], .agg [.agg [.lit (.string []), .lit (.int .i64 5), .lit (.int .i64 2)], .slice [.lit (.int .i64 1), .lit (.int .i64 4)] [], .lit (.int .i64 2)], .agg [.agg [.lit (.string []), .lit (.int .i64 6), .lit (.int .i64 2)], .slice [.lit (.int .i64 1), .lit (.int .i64 2)] [], .lit (.int .i64 2)], .agg [.agg [.lit (.string []), .lit (.int .i64 7), .lit (.int .i64 2)], .slice [.lit (.int .i64 1), .lit (.int .i64 2), .lit (.int .i64 7)] [], .lit (.int .i64 2)], .agg [.agg [.lit (.string []), .lit (.int .i64 8), .lit (.int .i64 2)], .slice [.lit (.int .i64 1), .lit (.int .i64 2), .lit (.int .i64 7)] [], .lit (.int .i64 2)], .agg [.agg [.lit (.string []), .lit (.int .i64 9), .lit (.int .i64 2)], .slice [.lit (.int .i64 1), .lit (.int .i64 4), .lit (.int .i64 5), .lit (.int .i64 6)] [], .lit (.int .i64 2)], .agg [.agg [.lit (.string []), .lit (.int .i64 10), .lit (.int .i64 2)], .slice [.lit (.int .i64 1), .lit (.int .i64 5), .lit (.int .i64 6), .lit (.int .i64 7)] [], .lit (.int .i64 2)], .agg [.agg [.lit (.string []), .lit (.int .i64 3), .lit (.int .i64 3)], .slice [.lit (.int .i64 1)] [], .lit (.int .i64 3)], .agg [.agg [.lit (.string []), .lit (.int .i64 4), .lit (.int .i64 3)], .slice [.lit (.int .i64 1), .lit (.int .i64 4)] [], .lit (.int .i64 3)], .agg [.agg [.lit (.string []), .lit (.int .i64 6), .lit (.int .i64 3)], .slice [.lit (.int .i64 1), .lit (.int .i64 2)] [], .lit (.int .i64 3)], .agg [.agg [.lit (.string []), .lit (.int .i64 7), .lit (.int .i64 3)], .slice [.lit (.int .i64 1), .lit (.int .i64 2), .lit (.int .i64 7)] [], .lit (.int .i64 3)], .agg [.agg [.lit (.string [74, 77, 80]), .lit (.int .i64 6), .lit (.int .i64 4)], .slice [.lit (.int .i64 1), .lit (.int .i64 24)] [], .lit (.int .i64 0)], .agg [.agg [.lit (.string [74, 77, 80]), .lit (.int .i64 11), .lit (.int .i64 4)], .slice [.lit (.int .i64 1), .lit (.int .i64 2), .lit (.int .i64 22), .lit (.int .i64 23)] [], .lit (.int .i64 0)], .agg [.agg [.lit (.string [74, 83, 82]), .lit (.int .i64 6), .lit (.int .i64 4)], .slice [.lit (.int .i64 1), .lit (.int .i64 13), .lit (.int .i64 14), .lit (.int .i64 15), .lit (.int .i64 24)] [], .lit (.int .i64 0)], .agg [.agg [.lit (.string [82, 84, 83]), .lit (.int .i64 0), .lit (.int .i64 4)], .slice [.lit (.int .i64 0), .lit (.int .i64 13), .lit (.int .i64 18), .lit (.int .i64 19), .lit (.int .i64 25)] [], .lit (.int .i64 0)], .agg [.agg [.lit (.string [82, 84, 73]), .lit (.int .i64 0), .lit (.int .i64 4)], .slice [.lit (.int .i64 0), .lit (.int .i64 13), .lit (.int .i64 20), .lit (.int .i64 18), .lit (.int .i64 19)] [], .lit (.int .i64 0)], .agg [.agg [.lit (.string [80, 72, 65]), .lit (.int .i64 0), .lit (.int .i64 4)], .slice [.lit (.int .i64 0), .lit (.int .i64 17)] [], .lit (.int .i64 0)], .agg [.agg [.lit (.string [80, 72, 80]), .lit (.int .i64 0), .lit (.int .i64 4)], .slice [.lit (.int .i64 0), .lit (.int .i64 16)] [], .lit (.int .i64 0)], .agg [.agg [.lit (.string [80, 76, 65]), .lit (.int .i64 0), .lit (.int .i64 4)], .slice [.lit (.int .i64 0), .lit (.int .i64 13), .lit (.int .i64 21)] [], .lit (.int .i64 0)], .agg [.agg [.lit (.string [80, 76, 80]), .lit (.int .i64 0), .lit (.int .i64 4)], .slice [.lit (.int .i64 0), .lit (.int .i64 13), .lit (.int .i64 20)] [], .lit (.int .i64 0)], .agg [.agg [.lit (.string [66, 82, 75]), .lit (.int .i64 0), .lit (.int .i64 4)], .slice [.lit (.int .i64 25)] [], .lit (.int .i64 4)], .agg [.agg [.lit (.string []), .lit (.int .i64 12), .lit (.int .i64 4)], .slice [.lit (.int .i64 26), .lit (.int .i64 27), .lit (.int .i64 28)] [], .lit (.int .i64 0)], .agg [.agg [.lit (.string []), .lit (.int .i64 0), .lit (.int .i64 0)], .slice [.lit (.int .i64 0)] [], .lit (.int .i64 0)], .agg [.agg [.lit (.string []), .lit (.int .i64 1), .lit (.int .i64 0)], .slice [.lit (.int .i64 0)] [], .lit (.int .i64 0)]]
def laid_cochineal_opcode_paces {H : Type} : DataW H := .agg [.agg [.agg [.lit (.string []), .lit (.int .i64 0), .lit (.int .i64 0)], .lit (.int .i64 2)], .agg [.agg [.lit (.string []), .lit (.int .i64 1), .lit (.int .i64 0)], .lit (.int .i64 2)], .agg [.agg [.lit (.string []), .lit (.int .i64 2), .lit (.int .i64 1)], .lit (.int .i64 2)], .agg [.agg [.lit (.string []), .lit (.int .i64 3), .lit (.int .i64 1)], .lit (.int .i64 3)], .agg [.agg [.lit (.string []), .lit (.int .i64 4), .lit (.int .i64 1)], .lit (.int .i64 4)], .agg [.agg [.lit (.string []), .lit (.int .i64 5), .lit (.int .i64 1)], .lit (.int .i64 4)], .agg [.agg [.lit (.string []), .lit (.int .i64 6), .lit (.int .i64 1)], .lit (.int .i64 4)], .agg [.agg [.lit (.string []), .lit (.int .i64 7), .lit (.int .i64 1)], .lit (.int .i64 4)], .agg [.agg [.lit (.string []), .lit (.int .i64 8), .lit (.int .i64 1)], .lit (.int .i64 4)], .agg [.agg [.lit (.string []), .lit (.int .i64 9), .lit (.int .i64 1)], .lit (.int .i64 6)], .agg [.agg [.lit (.string []), .lit (.int .i64 10), .lit (.int .i64 1)], .lit (.int .i64 5)], .agg [.agg [.lit (.string []), .lit (.int .i64 3), .lit (.int .i64 2)], .lit (.int .i64 3)], .agg [.agg [.lit (.string []), .lit (.int .i64 4), .lit (.int .i64 2)], .lit (.int .i64 4)], .agg [.agg [.lit (.string []), .lit (.int .i64 5), .lit (.int .i64 2)], .lit (.int .i64 4)], .agg [.agg [.lit (.string []), .lit (.int .i64 6), .lit (.int .i64 2)], .lit (.int .i64 4)], .agg [.agg [.lit (.string []), .lit (.int .i64 7), .lit (.int .i64 2)], .lit (.int .i64 5)], .agg [.agg [.lit (.string []), .lit (.int .i64 8), .lit (.int .i64 2)], .lit (.int .i64 5)], .agg [.agg [.lit (.string []), .lit (.int .i64 9), .lit (.int .i64 2)], .lit (.int .i64 6)], .agg [.agg [.lit (.string []), .lit (.int .i64 10), .lit (.int .i64 2)], .lit (.int .i64 6)], .agg [.agg [.lit (.string []), .lit (.int .i64 3), .lit (.int .i64 3)], .lit (.int .i64 5)], .agg [.agg [.lit (.string []), .lit (.int .i64 4), .lit (.int .i64 3)], .lit (.int .i64 6)], .agg [.agg [.lit (.string []), .lit (.int .i64 6), .lit (.int .i64 3)], .lit (.int .i64 6)], .agg [.agg [.lit (.string []), .lit (.int .i64 7), .lit (.int .i64 3)], .lit (.int .i64 7)], .agg [.agg [.lit (.string []), .lit (.int .i64 12), .lit (.int .i64 4)], .lit (.int .i64 2)], .agg [.agg [.lit (.string [74, 77, 80]), .lit (.int .i64 6), .lit (.int .i64 4)], .lit (.int .i64 3)], .agg [.agg [.lit (.string [74, 77, 80]), .lit (.int .i64 11), .lit (.int .i64 4)], .lit (.int .i64 5)], .agg [.agg [.lit (.string [80, 72, 65]), .lit (.int .i64 0), .lit (.int .i64 4)], .lit (.int .i64 3)], .agg [.agg [.lit (.string [80, 72, 80]), .lit (.int .i64 0), .lit (.int .i64 4)], .lit (.int .i64 3)], .agg [.agg [.lit (.string [80, 76, 65]), .lit (.int .i64 0), .lit (.int .i64 4)], .lit (.int .i64 4)], .agg [.agg [.lit (.string [80, 76, 80]), .lit (.int .i64 0), .lit (.int .i64 4)], .lit (.int .i64 4)], .agg [.agg [.lit (.string [74, 83, 82]), .lit (.int .i64 6), .lit (.int .i64 4)], .lit (.int .i64 6)], .agg [.agg [.lit (.string [82, 84, 73]), .lit (.int .i64 0), .lit (.int .i64 4)], .lit (.int .i64 6)], .agg [.agg [.lit (.string [82, 84, 83]), .lit (.int .i64 0), .lit (.int .i64 4)], .lit (.int .i64 6)], .agg [.agg [.lit (.string [66, 82, 75]), .lit (.int .i64 0), .lit (.int .i64 4)], .lit (.int .i64 7)]]

/-- 'cochineallaw14.MicroPrograms': WHATEVER THE INPUT: true; the input reads as it did. -/
def microProgramsSpec : ChangeSpec := { name := "microPrograms", fn := fun _ => fun
  | [d] => { results := [.lit (.bool true)], args := [d] }
  | _ => none }
def microProgramsRow : OpenClaim := { program := "ytcplegelppfdeaadoor", sum := "d51975f0d051b717e5dbe03e1ea8d650a70c9eda2d115b476647119e09adffa9", func := "cochineal/cochineallaw14.MicroPrograms", spec := "microPrograms", named := ["cochineal/micro.rows"], apart := false, laid := [("cochineal/micro.rows", laid_cochineal_micro_rows)] }
def MicroProgramsSaid : Prop := microProgramsRow.holds Tryd.pinned (OpenSpec.ofChange microProgramsSpec)

/-- ITS FALSE NEIGHBOUR: 'it returns false'. Refute it at one input. -/
def microProgramsWrong : ChangeSpec := { name := "microPrograms", fn := fun _ => fun
  | [d] => { results := [.lit (.bool false)], args := [d] }
  | _ => none }
def MicroProgramsWrongFalsely : Prop := microProgramsRow.holds Tryd.pinned (OpenSpec.ofChange microProgramsWrong)

/-- 'cochineallaw14.MicroSequences': WHATEVER THE INPUT: true; the input reads as it did. -/
def microSequencesSpec : ChangeSpec := { name := "microSequences", fn := fun _ => fun
  | [d1, d2] => { results := [.lit (.bool true)], args := [d1, d2] }
  | _ => none }
def microSequencesRow : OpenClaim := { program := "ytcplegelppfdeaadoor", sum := "d51975f0d051b717e5dbe03e1ea8d650a70c9eda2d115b476647119e09adffa9", func := "cochineal/cochineallaw14.MicroSequences", spec := "microSequences", named := ["cochineal/micro.rows"], apart := false, laid := [("cochineal/micro.rows", laid_cochineal_micro_rows)] }
def MicroSequencesSaid : Prop := microSequencesRow.holds Tryd.pinned (OpenSpec.ofChange microSequencesSpec)

/-- ITS FALSE NEIGHBOUR: 'it returns false'. Refute it at one input. -/
def microSequencesWrong : ChangeSpec := { name := "microSequences", fn := fun _ => fun
  | [d1, d2] => { results := [.lit (.bool false)], args := [d1, d2] }
  | _ => none }
def MicroSequencesWrongFalsely : Prop := microSequencesRow.holds Tryd.pinned (OpenSpec.ofChange microSequencesWrong)

/-- 'cochineallaw14.MicroLeast': WHATEVER THE INPUT: true; the input reads as it did. -/
def microLeastSpec : ChangeSpec := { name := "microLeast", fn := fun _ => fun
  | [d] => { results := [.lit (.bool true)], args := [d] }
  | _ => none }
def microLeastRow : OpenClaim := { program := "ytcplegelppfdeaadoor", sum := "d51975f0d051b717e5dbe03e1ea8d650a70c9eda2d115b476647119e09adffa9", func := "cochineal/cochineallaw14.MicroLeast", spec := "microLeast", named := ["cochineal/micro.rows", "cochineal/opcode.paces"], apart := false, laid := [("cochineal/opcode.paces", laid_cochineal_opcode_paces), ("cochineal/micro.rows", laid_cochineal_micro_rows)] }
def MicroLeastSaid : Prop := microLeastRow.holds Tryd.pinned (OpenSpec.ofChange microLeastSpec)

/-- ITS FALSE NEIGHBOUR: 'it returns false'. Refute it at one input. -/
def microLeastWrong : ChangeSpec := { name := "microLeast", fn := fun _ => fun
  | [d] => { results := [.lit (.bool false)], args := [d] }
  | _ => none }
def MicroLeastWrongFalsely : Prop := microLeastRow.holds Tryd.pinned (OpenSpec.ofChange microLeastWrong)

/-- 'cochineallaw14.MicroOwn': WHATEVER THE INPUT: true; the input reads as it did. -/
def microOwnSpec : ChangeSpec := { name := "microOwn", fn := fun _ => fun
  | [d1, d2] => { results := [.lit (.bool true)], args := [d1, d2] }
  | _ => none }
def microOwnRow : OpenClaim := { program := "ytcplegelppfdeaadoor", sum := "d51975f0d051b717e5dbe03e1ea8d650a70c9eda2d115b476647119e09adffa9", func := "cochineal/cochineallaw14.MicroOwn", spec := "microOwn", named := ["cochineal/micro.rows"], apart := false, laid := [("cochineal/micro.rows", laid_cochineal_micro_rows)] }
def MicroOwnSaid : Prop := microOwnRow.holds Tryd.pinned (OpenSpec.ofChange microOwnSpec)

/-- ITS FALSE NEIGHBOUR: 'it returns false'. Refute it at one input. -/
def microOwnWrong : ChangeSpec := { name := "microOwn", fn := fun _ => fun
  | [d1, d2] => { results := [.lit (.bool false)], args := [d1, d2] }
  | _ => none }
def MicroOwnWrongFalsely : Prop := microOwnRow.holds Tryd.pinned (OpenSpec.ofChange microOwnWrong)

/-- 'cochineallaw14.MicroWrites': WHATEVER THE INPUT: true; the input reads as it did. -/
def microWritesSpec : ChangeSpec := { name := "microWrites", fn := fun _ => fun
  | [d] => { results := [.lit (.bool true)], args := [d] }
  | _ => none }
def microWritesRow : OpenClaim := { program := "ytcplegelppfdeaadoor", sum := "d51975f0d051b717e5dbe03e1ea8d650a70c9eda2d115b476647119e09adffa9", func := "cochineal/cochineallaw14.MicroWrites", spec := "microWrites", named := ["cochineal/micro.rows"], apart := false, laid := [("cochineal/micro.rows", laid_cochineal_micro_rows)] }
def MicroWritesSaid : Prop := microWritesRow.holds Tryd.pinned (OpenSpec.ofChange microWritesSpec)

/-- ITS FALSE NEIGHBOUR: 'it returns false'. Refute it at one input. -/
def microWritesWrong : ChangeSpec := { name := "microWrites", fn := fun _ => fun
  | [d] => { results := [.lit (.bool false)], args := [d] }
  | _ => none }
def MicroWritesWrongFalsely : Prop := microWritesRow.holds Tryd.pinned (OpenSpec.ofChange microWritesWrong)

/- THE SECOND FORM. 'bulk': how many values and letters a reading holds, each counted each time it is reached (what is shared counts as often as it is met; a slice's spare places count too). A statement '..UptoSaid' is the law's where the arguments, and the package variables that the reading takes, are together of bulk at most 1048576: NARROWER than '..Said'. Prove '..Said' where nothing that the law and all that it calls make is longer than what came in: it says more and counts as full. Else prove '..UptoSaid'. A law counts once. -/
mutual
def uptoBulk {H : Type} : DataW H → Nat
  | .lit (.string bytes) => bytes.length + 1
  | .lit _ => 1
  | .nil => 1
  | .ptr d => uptoBulk d + 1
  | .slice elems spare => uptoBulkAll elems + uptoBulkAll spare + 1
  | .agg parts => uptoBulkAll parts + 1
  | .iface _ d => uptoBulk d + 1
  | .map entries => uptoBulkEntries entries + 1
  | .held _ => 1
def uptoBulkAll {H : Type} : List (DataW H) → Nat
  | [] => 0
  | d :: r => uptoBulk d + uptoBulkAll r
def uptoBulkEntries {H : Type} : List (Lit × DataW H) → Nat
  | [] => 0
  | x :: r => uptoBulkEntry x + uptoBulkEntries r
def uptoBulkEntry {H : Type} : Lit × DataW H → Nat
  | (.string bytes, d) => bytes.length + uptoBulk d + 1
  | (_, d) => uptoBulk d + 1
 end
def uptoSmall : (H : Type) → List (DataW H) → Bool := fun _ ds => decide (uptoBulkAll ds ≤ 1048576)
def OpenSpec.upto (s : _root_.Go.ChangeSpec) : _root_.Go.OpenSpec := { _root_.Go.OpenSpec.ofChange s with cond := some uptoSmall }

/-- 'cochineallaw14.MicroPrograms', WHERE WHAT IT READS IS OF BULK AT MOST 1048576: true; the input reads as it did. -/
def microProgramsUptoRow : OpenClaim := { program := "ytcplegelppfdeaadoor", sum := "d51975f0d051b717e5dbe03e1ea8d650a70c9eda2d115b476647119e09adffa9", func := "cochineal/cochineallaw14.MicroPrograms", spec := "microPrograms", named := ["cochineal/micro.rows"], apart := false, laid := [("cochineal/micro.rows", laid_cochineal_micro_rows)], narrowed := true }
def MicroProgramsUptoSaid : Prop := microProgramsUptoRow.holds Tryd.pinned (OpenSpec.upto microProgramsSpec)

/-- 'cochineallaw14.MicroSequences', WHERE WHAT IT READS IS OF BULK AT MOST 1048576: true; the input reads as it did. -/
def microSequencesUptoRow : OpenClaim := { program := "ytcplegelppfdeaadoor", sum := "d51975f0d051b717e5dbe03e1ea8d650a70c9eda2d115b476647119e09adffa9", func := "cochineal/cochineallaw14.MicroSequences", spec := "microSequences", named := ["cochineal/micro.rows"], apart := false, laid := [("cochineal/micro.rows", laid_cochineal_micro_rows)], narrowed := true }
def MicroSequencesUptoSaid : Prop := microSequencesUptoRow.holds Tryd.pinned (OpenSpec.upto microSequencesSpec)

/-- 'cochineallaw14.MicroLeast', WHERE WHAT IT READS IS OF BULK AT MOST 1048576: true; the input reads as it did. -/
def microLeastUptoRow : OpenClaim := { program := "ytcplegelppfdeaadoor", sum := "d51975f0d051b717e5dbe03e1ea8d650a70c9eda2d115b476647119e09adffa9", func := "cochineal/cochineallaw14.MicroLeast", spec := "microLeast", named := ["cochineal/micro.rows", "cochineal/opcode.paces"], apart := false, laid := [("cochineal/opcode.paces", laid_cochineal_opcode_paces), ("cochineal/micro.rows", laid_cochineal_micro_rows)], narrowed := true }
def MicroLeastUptoSaid : Prop := microLeastUptoRow.holds Tryd.pinned (OpenSpec.upto microLeastSpec)

/-- 'cochineallaw14.MicroOwn', WHERE WHAT IT READS IS OF BULK AT MOST 1048576: true; the input reads as it did. -/
def microOwnUptoRow : OpenClaim := { program := "ytcplegelppfdeaadoor", sum := "d51975f0d051b717e5dbe03e1ea8d650a70c9eda2d115b476647119e09adffa9", func := "cochineal/cochineallaw14.MicroOwn", spec := "microOwn", named := ["cochineal/micro.rows"], apart := false, laid := [("cochineal/micro.rows", laid_cochineal_micro_rows)], narrowed := true }
def MicroOwnUptoSaid : Prop := microOwnUptoRow.holds Tryd.pinned (OpenSpec.upto microOwnSpec)

/-- 'cochineallaw14.MicroWrites', WHERE WHAT IT READS IS OF BULK AT MOST 1048576: true; the input reads as it did. -/
def microWritesUptoRow : OpenClaim := { program := "ytcplegelppfdeaadoor", sum := "d51975f0d051b717e5dbe03e1ea8d650a70c9eda2d115b476647119e09adffa9", func := "cochineal/cochineallaw14.MicroWrites", spec := "microWrites", named := ["cochineal/micro.rows"], apart := false, laid := [("cochineal/micro.rows", laid_cochineal_micro_rows)], narrowed := true }
def MicroWritesUptoSaid : Prop := microWritesUptoRow.holds Tryd.pinned (OpenSpec.upto microWritesSpec)

end Rows
end Go.Proofs.YtcplegelppfdeaaDoor
