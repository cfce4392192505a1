/-
  NARROWER THAN 'FOR EVERY INPUT', by the rows' own cells (each row's printed sentence says how): LabelsLays: laid · LabelsLow: laid · LabelsNil: laid.
  DERIVED. THE GIVEN ROWS OF THIS SEAT. 3 by the template 'for every input the law returns true; each argument reads behind the call as it read before'; 0 by the template 'total and deterministic' (their statements: YtcilnbkmaoneaaaDoorTotals.lean).
  GIVEN WITH THE SEED: the statements are not yours to turn. If you find one false, say at which input.
  Laid BY PROGRAM, IN A SANDBOX (cutbox-rows.mjs): the forced cells as the released guide's own fill.sh prints them over the translation 61112f1ffc9e9ff5… (all of the seat's roots in one cut). By AI agents, Wed Nov 11 2026. No macro, syntax, notation, axiom, sorry.
-/
import Derived.Test.YtcilnbkmaoneaaaDoorChecked
import GoSem.Claim
import GoSem.ClaimJoined
import GoSem.ClaimMapViews
import Derived.JoinedTies
import Derived.KernelRfl
namespace Go.Proofs.YtcilnbkmaoneaaaDoor
/- THE CELL 'sum', in the pinned program and in every row, IS THE sha256 OF THE DUMP (.gsa) THAT YtcilnbkmaoneaaaDoorProg.lean LOADS. Nothing in Lean hashes anything: it is a label: what it is worth is what the hold of that sum in a sandbox is worth. -/
noncomputable def Tryd.pinned : Pinned := { name := "ytcilnbkmaoneaaadoor", sum := "61112f1ffc9e9ff5104b2ca24685e2cceca0584efb2e72960785257ec5ba294f", checked := Tryd.checked }
namespace Rows
def none {H : Type} : Left H := { results := [], args := [] }

/- WHAT THE LISTED PACKAGE-LEVEL VARIABLES READ AS WHEN THE CALL BEGINS. Each datum BY PROGRAM (the guide's laid-datum.mjs) off the statement by which the dump's own 'gosem.cut.vars' lays the variable. In a bare row this is a premise. The card (YtcilnbkmaoneaaaDoorCards.lean) ties it to the program's text. -/
def laid_cochineal_memory_areas {H : Type} : DataW H := .agg [.agg [.lit (.int .i64 1), .lit (.int .i64 0), .lit (.int .i64 32767)], .agg [.lit (.int .i64 2), .lit (.int .i64 32768), .lit (.int .i64 32783)], .agg [.lit (.int .i64 3), .lit (.int .i64 32784), .lit (.int .i64 49151)], .agg [.lit (.int .i64 4), .lit (.int .i64 49152), .lit (.int .i64 65535)]]

/-- 'cochineallaw09.LabelsLays': WHATEVER THE INPUT: true; the input reads as it did. -/
def labelsLaysSpec : ChangeSpec := { name := "labelsLays", fn := fun _ => fun
  | [d1, d2] => { results := [.lit (.bool true)], args := [d1, d2] }
  | _ => none }
def labelsLaysRow : OpenClaim := { program := "ytcilnbkmaoneaaadoor", sum := "61112f1ffc9e9ff5104b2ca24685e2cceca0584efb2e72960785257ec5ba294f", func := "cochineal/cochineallaw09.LabelsLays", spec := "labelsLays", unfollowed := true, recurses := true, named := ["cochineal/memory.areas"], apart := false, laid := [("cochineal/memory.areas", laid_cochineal_memory_areas)] }
def LabelsLaysSaid : Prop := labelsLaysRow.holds Tryd.pinned (OpenSpec.ofChange labelsLaysSpec)

/-- ITS FALSE NEIGHBOUR: 'it returns false'. Refute it at one input. -/
def labelsLaysWrong : ChangeSpec := { name := "labelsLays", fn := fun _ => fun
  | [d1, d2] => { results := [.lit (.bool false)], args := [d1, d2] }
  | _ => none }
def LabelsLaysWrongFalsely : Prop := labelsLaysRow.holds Tryd.pinned (OpenSpec.ofChange labelsLaysWrong)

/-- 'cochineallaw09.LabelsLow': WHATEVER THE INPUT: true; the input reads as it did. -/
def labelsLowSpec : ChangeSpec := { name := "labelsLow", fn := fun _ => fun
  | [d1, d2, d3] => { results := [.lit (.bool true)], args := [d1, d2, d3] }
  | _ => none }
def labelsLowRow : OpenClaim := { program := "ytcilnbkmaoneaaadoor", sum := "61112f1ffc9e9ff5104b2ca24685e2cceca0584efb2e72960785257ec5ba294f", func := "cochineal/cochineallaw09.LabelsLow", spec := "labelsLow", unfollowed := true, recurses := true, named := ["cochineal/memory.areas"], apart := false, laid := [("cochineal/memory.areas", laid_cochineal_memory_areas)] }
def LabelsLowSaid : Prop := labelsLowRow.holds Tryd.pinned (OpenSpec.ofChange labelsLowSpec)

/-- ITS FALSE NEIGHBOUR: 'it returns false'. Refute it at one input. -/
def labelsLowWrong : ChangeSpec := { name := "labelsLow", fn := fun _ => fun
  | [d1, d2, d3] => { results := [.lit (.bool false)], args := [d1, d2, d3] }
  | _ => none }
def LabelsLowWrongFalsely : Prop := labelsLowRow.holds Tryd.pinned (OpenSpec.ofChange labelsLowWrong)

/-- 'cochineallaw09.LabelsNil': WHATEVER THE INPUT: true; the input reads as it did. -/
def labelsNilSpec : ChangeSpec := { name := "labelsNil", fn := fun _ => fun
  | [d1, d2, d3] => { results := [.lit (.bool true)], args := [d1, d2, d3] }
  | _ => none }
def labelsNilRow : OpenClaim := { program := "ytcilnbkmaoneaaadoor", sum := "61112f1ffc9e9ff5104b2ca24685e2cceca0584efb2e72960785257ec5ba294f", func := "cochineal/cochineallaw09.LabelsNil", spec := "labelsNil", unfollowed := true, recurses := true, named := ["cochineal/memory.areas"], apart := false, laid := [("cochineal/memory.areas", laid_cochineal_memory_areas)] }
def LabelsNilSaid : Prop := labelsNilRow.holds Tryd.pinned (OpenSpec.ofChange labelsNilSpec)

/-- ITS FALSE NEIGHBOUR: 'it returns false'. Refute it at one input. -/
def labelsNilWrong : ChangeSpec := { name := "labelsNil", fn := fun _ => fun
  | [d1, d2, d3] => { results := [.lit (.bool false)], args := [d1, d2, d3] }
  | _ => none }
def LabelsNilWrongFalsely : Prop := labelsNilRow.holds Tryd.pinned (OpenSpec.ofChange labelsNilWrong)

/- THE SECOND FORM. 'bulk': how many values and letters a reading holds, each counted each time it is reached (what is shared counts as often as it is met; a slice's spare places count too). A statement '..UptoSaid' is the law's where the arguments, and the package variables that the reading takes, are together of bulk at most 1048576: NARROWER than '..Said'. Prove '..Said' where nothing that the law and all that it calls make is longer than what came in: it says more and counts as full. Else prove '..UptoSaid'. A law counts once. -/
mutual
def uptoBulk {H : Type} : DataW H → Nat
  | .lit (.string bytes) => bytes.length + 1
  | .lit _ => 1
  | .nil => 1
  | .ptr d => uptoBulk d + 1
  | .slice elems spare => uptoBulkAll elems + uptoBulkAll spare + 1
  | .agg parts => uptoBulkAll parts + 1
  | .iface _ d => uptoBulk d + 1
  | .map entries => uptoBulkEntries entries + 1
  | .held _ => 1
def uptoBulkAll {H : Type} : List (DataW H) → Nat
  | [] => 0
  | d :: r => uptoBulk d + uptoBulkAll r
def uptoBulkEntries {H : Type} : List (Lit × DataW H) → Nat
  | [] => 0
  | x :: r => uptoBulkEntry x + uptoBulkEntries r
def uptoBulkEntry {H : Type} : Lit × DataW H → Nat
  | (.string bytes, d) => bytes.length + uptoBulk d + 1
  | (_, d) => uptoBulk d + 1
 end
def uptoSmall : (H : Type) → List (DataW H) → Bool := fun _ ds => decide (uptoBulkAll ds ≤ 1048576)
def OpenSpec.upto (s : _root_.Go.ChangeSpec) : _root_.Go.OpenSpec := { _root_.Go.OpenSpec.ofChange s with cond := some uptoSmall }

/-- 'cochineallaw09.LabelsLays', WHERE WHAT IT READS IS OF BULK AT MOST 1048576: true; the input reads as it did. -/
def labelsLaysUptoRow : OpenClaim := { program := "ytcilnbkmaoneaaadoor", sum := "61112f1ffc9e9ff5104b2ca24685e2cceca0584efb2e72960785257ec5ba294f", func := "cochineal/cochineallaw09.LabelsLays", spec := "labelsLays", unfollowed := true, recurses := true, named := ["cochineal/memory.areas"], apart := false, laid := [("cochineal/memory.areas", laid_cochineal_memory_areas)], narrowed := true }
def LabelsLaysUptoSaid : Prop := labelsLaysUptoRow.holds Tryd.pinned (OpenSpec.upto labelsLaysSpec)

/-- 'cochineallaw09.LabelsLow', WHERE WHAT IT READS IS OF BULK AT MOST 1048576: true; the input reads as it did. -/
def labelsLowUptoRow : OpenClaim := { program := "ytcilnbkmaoneaaadoor", sum := "61112f1ffc9e9ff5104b2ca24685e2cceca0584efb2e72960785257ec5ba294f", func := "cochineal/cochineallaw09.LabelsLow", spec := "labelsLow", unfollowed := true, recurses := true, named := ["cochineal/memory.areas"], apart := false, laid := [("cochineal/memory.areas", laid_cochineal_memory_areas)], narrowed := true }
def LabelsLowUptoSaid : Prop := labelsLowUptoRow.holds Tryd.pinned (OpenSpec.upto labelsLowSpec)

/-- 'cochineallaw09.LabelsNil', WHERE WHAT IT READS IS OF BULK AT MOST 1048576: true; the input reads as it did. -/
def labelsNilUptoRow : OpenClaim := { program := "ytcilnbkmaoneaaadoor", sum := "61112f1ffc9e9ff5104b2ca24685e2cceca0584efb2e72960785257ec5ba294f", func := "cochineal/cochineallaw09.LabelsNil", spec := "labelsNil", unfollowed := true, recurses := true, named := ["cochineal/memory.areas"], apart := false, laid := [("cochineal/memory.areas", laid_cochineal_memory_areas)], narrowed := true }
def LabelsNilUptoSaid : Prop := labelsNilUptoRow.holds Tryd.pinned (OpenSpec.upto labelsNilSpec)

end Rows
end Go.Proofs.YtcilnbkmaoneaaaDoor
