/-
  NARROWER THAN 'FOR EVERY INPUT', by the rows' own cells (each row's printed sentence says how): OpcodeTells: laid · OpcodeBack: laid · OpcodeKinds: laid.
  DERIVED. THE GIVEN ROWS OF THIS SEAT. 3 by the template 'for every input the law returns true; each argument reads behind the call as it read before'; 0 by the template 'total and deterministic' (their statements: YtnigcmicimdphaaDoorTotals.lean).
  GIVEN WITH THE SEED: the statements are not yours to turn. If you find one false, say at which input.
  Laid BY PROGRAM, IN A SANDBOX (cutbox-rows.mjs): the forced cells as the released guide's own fill.sh prints them over the translation 5e6c94ba3674e589… (all of the seat's roots in one cut). By AI agents, Wed Nov 11 2026. No macro, syntax, notation, axiom, sorry.
-/
import Derived.Test.YtnigcmicimdphaaDoorChecked
import GoSem.Claim
import GoSem.ClaimJoined
import GoSem.ClaimMapViews
import Derived.JoinedTies
import Derived.KernelRfl
namespace Go.Proofs.YtnigcmicimdphaaDoor
/- THE CELL 'sum', in the pinned program and in every row, IS THE sha256 OF THE DUMP (.gsa) THAT YtnigcmicimdphaaDoorProg.lean LOADS. Nothing in Lean hashes anything: it is a label: what it is worth is what the hold of that sum in a sandbox is worth. -/
noncomputable def Tryd.pinned : Pinned := { name := "ytnigcmicimdphaadoor", sum := "5e6c94ba3674e5891ebdd7d60d9a36c1c6a28afac1e09feecf5154b9c427835f", checked := Tryd.checked }
namespace Rows
def none {H : Type} : Left H := { results := [], args := [] }

/- WHAT THE LISTED PACKAGE-LEVEL VARIABLES READ AS WHEN THE CALL BEGINS. Each datum BY PROGRAM (the guide's laid-datum.mjs) off the statement by which the dump's own 'gosem.cut.vars' lays the variable. In a bare row this is a premise. The card (YtnigcmicimdphaaDoorCards.lean) ties it to the program's text. -/
def laid_cochineal_opcode_paces {H : Type} : DataW H := .agg [.agg [.agg [.lit (.string []), .lit (.int .i64 0), .lit (.int .i64 0)], .lit (.int .i64 2)], .agg [.agg [.lit (.string []), .lit (.int .i64 1), .lit (.int .i64 0)], .lit (.int .i64 2)], .agg [.agg [.lit (.string []), .lit (.int .i64 2), .lit (.int .i64 1)], .lit (.int .i64 2)], .agg [.agg [.lit (.string []), .lit (.int .i64 3), .lit (.int .i64 1)], .lit (.int .i64 3)], .agg [.agg [.lit (.string []), .lit (.int .i64 4), .lit (.int .i64 1)], .lit (.int .i64 4)], .agg [.agg [.lit (.string []), .lit (.int .i64 5), .lit (.int .i64 1)], .lit (.int .i64 4)], .agg [.agg [.lit (.string []), .lit (.int .i64 6), .lit (.int .i64 1)], .lit (.int .i64 4)], .agg [.agg [.lit (.string []), .lit (.int .i64 7), .lit (.int .i64 1)], .lit (.int .i64 4)], .agg [.agg [.lit (.string []), .lit (.int .i64 8), .lit (.int .i64 1)], .lit (.int .i64 4)], .agg [.agg [.lit (.string []), .lit (.int .i64 9), .lit (.int .i64 1)], .lit (.int .i64 6)], .agg [.agg [.lit (.string []), .lit (.int .i64 10), .lit (.int .i64 1)], .lit (.int .i64 5)], .agg [.agg [.lit (.string []), .lit (.int .i64 3), .lit (.int .i64 2)], .lit (.int .i64 3)], .agg [.agg [.lit (.string []), .lit (.int .i64 4), .lit (.int .i64 2)], .lit (.int .i64 4)], .agg [.agg [.lit (.string []), .lit (.int .i64 5), .lit (.int .i64 2)], .lit (.int .i64 4)], .agg [.agg [.lit (.string []), .lit (.int .i64 6), .lit (.int .i64 2)], .lit (.int .i64 4)], .agg [.agg [.lit (.string []), .lit (.int .i64 7), .lit (.int .i64 2)], .lit (.int .i64 5)], .agg [.agg [.lit (.string []), .lit (.int .i64 8), .lit (.int .i64 2)], .lit (.int .i64 5)], .agg [.agg [.lit (.string []), .lit (.int .i64 9), .lit (.int .i64 2)], .lit (.int .i64 6)], .agg [.agg [.lit (.string []), .lit (.int .i64 10), .lit (.int .i64 2)], .lit (.int .i64 6)], .agg [.agg [.lit (.string []), .lit (.int .i64 3), .lit (.int .i64 3)], .lit (.int .i64 5)], .agg [.agg [.lit (.string []), .lit (.int .i64 4), .lit (.int .i64 3)], .lit (.int .i64 6)], .agg [.agg [.lit (.string []), .lit (.int .i64 6), .lit (.int .i64 3)], .lit (.int .i64 6)], .agg [.agg [.lit (.string []), .lit (.int .i64 7), .lit (.int .i64 3)], .lit (.int .i64 7)], .agg [.agg [.lit (.string []), .lit (.int .i64 12), .lit (.int .i64 4)], .lit (.int .i64 2)], .agg [.agg [.lit (.string [74, 77, 80]), .lit (.int .i64 6), .lit (.int .i64 4)], .lit (.int .i64 3)], .agg [.agg [.lit (.string [74, 77, 80]), .lit (.int .i64 11), .lit (.int .i64 4)], .lit (.int .i64 5)], .agg [.agg [.lit (.string [80, 72, 65]), .lit (.int .i64 0), .lit (.int .i64 4)], .lit (.int .i64 3)], .agg [.agg [.lit (.string [80, 72, 80]), .lit (.int .i64 0), .lit (.int .i64 4)], .lit (.int .i64 3)], .agg [.agg [.lit (.string [80, 76, 65]), .lit (.int .i64 0), .lit (.int .i64 4)], .lit (.int .i64 4)], .agg [.agg [.lit (.string [80, 76, 80]), .lit (.int .i64 0), .lit (.int .i64 4)], .lit (.int .i64 4)], .agg [.agg [.lit (.string [74, 83, 82]), .lit (.int .i64 6), .lit (.int .i64 4)], .lit (.int .i64 6)], .agg [.agg [.lit (.string [82, 84, 73]), .lit (.int .i64 0), .lit (.int .i64 4)], .lit (.int .i64 6)], .agg [.agg [.lit (.string [82, 84, 83]), .lit (.int .i64 0), .lit (.int .i64 4)], .lit (.int .i64 6)], .agg [.agg [.lit (.string [66, 82, 75]), .lit (.int .i64 0), .lit (.int .i64 4)], .lit (.int .i64 7)]]

/-- 'cochineallaw04.OpcodeTells': WHATEVER THE INPUT: true; the input reads as it did. -/
def opcodeTellsSpec : ChangeSpec := { name := "opcodeTells", fn := fun _ => fun
  | [d] => { results := [.lit (.bool true)], args := [d] }
  | _ => none }
def opcodeTellsRow : OpenClaim := { program := "ytnigcmicimdphaadoor", sum := "5e6c94ba3674e5891ebdd7d60d9a36c1c6a28afac1e09feecf5154b9c427835f", func := "cochineal/cochineallaw04.OpcodeTells", spec := "opcodeTells", named := ["cochineal/opcode.paces"], apart := false, laid := [("cochineal/opcode.paces", laid_cochineal_opcode_paces)] }
def OpcodeTellsSaid : Prop := opcodeTellsRow.holds Tryd.pinned (OpenSpec.ofChange opcodeTellsSpec)

/-- ITS FALSE NEIGHBOUR: 'it returns false'. Refute it at one input. -/
def opcodeTellsWrong : ChangeSpec := { name := "opcodeTells", fn := fun _ => fun
  | [d] => { results := [.lit (.bool false)], args := [d] }
  | _ => none }
def OpcodeTellsWrongFalsely : Prop := opcodeTellsRow.holds Tryd.pinned (OpenSpec.ofChange opcodeTellsWrong)

/-- 'cochineallaw04.OpcodeBack': WHATEVER THE INPUT: true; the input reads as it did. -/
def opcodeBackSpec : ChangeSpec := { name := "opcodeBack", fn := fun _ => fun
  | [d] => { results := [.lit (.bool true)], args := [d] }
  | _ => none }
def opcodeBackRow : OpenClaim := { program := "ytnigcmicimdphaadoor", sum := "5e6c94ba3674e5891ebdd7d60d9a36c1c6a28afac1e09feecf5154b9c427835f", func := "cochineal/cochineallaw04.OpcodeBack", spec := "opcodeBack", unfollowed := true, recurses := true, named := ["cochineal/opcode.paces"], apart := false, laid := [("cochineal/opcode.paces", laid_cochineal_opcode_paces)] }
def OpcodeBackSaid : Prop := opcodeBackRow.holds Tryd.pinned (OpenSpec.ofChange opcodeBackSpec)

/-- ITS FALSE NEIGHBOUR: 'it returns false'. Refute it at one input. -/
def opcodeBackWrong : ChangeSpec := { name := "opcodeBack", fn := fun _ => fun
  | [d] => { results := [.lit (.bool false)], args := [d] }
  | _ => none }
def OpcodeBackWrongFalsely : Prop := opcodeBackRow.holds Tryd.pinned (OpenSpec.ofChange opcodeBackWrong)

/-- 'cochineallaw04.OpcodeKinds': WHATEVER THE INPUT: true; the input reads as it did. -/
def opcodeKindsSpec : ChangeSpec := { name := "opcodeKinds", fn := fun _ => fun
  | [d] => { results := [.lit (.bool true)], args := [d] }
  | _ => none }
def opcodeKindsRow : OpenClaim := { program := "ytnigcmicimdphaadoor", sum := "5e6c94ba3674e5891ebdd7d60d9a36c1c6a28afac1e09feecf5154b9c427835f", func := "cochineal/cochineallaw04.OpcodeKinds", spec := "opcodeKinds", named := ["cochineal/opcode.paces"], apart := false, laid := [("cochineal/opcode.paces", laid_cochineal_opcode_paces)] }
def OpcodeKindsSaid : Prop := opcodeKindsRow.holds Tryd.pinned (OpenSpec.ofChange opcodeKindsSpec)

/-- ITS FALSE NEIGHBOUR: 'it returns false'. Refute it at one input. -/
def opcodeKindsWrong : ChangeSpec := { name := "opcodeKinds", fn := fun _ => fun
  | [d] => { results := [.lit (.bool false)], args := [d] }
  | _ => none }
def OpcodeKindsWrongFalsely : Prop := opcodeKindsRow.holds Tryd.pinned (OpenSpec.ofChange opcodeKindsWrong)

/- THE SECOND FORM. 'bulk': how many values and letters a reading holds, each counted each time it is reached (what is shared counts as often as it is met; a slice's spare places count too). A statement '..UptoSaid' is the law's where the arguments, and the package variables that the reading takes, are together of bulk at most 1048576: NARROWER than '..Said'. Prove '..Said' where nothing that the law and all that it calls make is longer than what came in: it says more and counts as full. Else prove '..UptoSaid'. A law counts once. -/
mutual
def uptoBulk {H : Type} : DataW H → Nat
  | .lit (.string bytes) => bytes.length + 1
  | .lit _ => 1
  | .nil => 1
  | .ptr d => uptoBulk d + 1
  | .slice elems spare => uptoBulkAll elems + uptoBulkAll spare + 1
  | .agg parts => uptoBulkAll parts + 1
  | .iface _ d => uptoBulk d + 1
  | .map entries => uptoBulkEntries entries + 1
  | .held _ => 1
def uptoBulkAll {H : Type} : List (DataW H) → Nat
  | [] => 0
  | d :: r => uptoBulk d + uptoBulkAll r
def uptoBulkEntries {H : Type} : List (Lit × DataW H) → Nat
  | [] => 0
  | x :: r => uptoBulkEntry x + uptoBulkEntries r
def uptoBulkEntry {H : Type} : Lit × DataW H → Nat
  | (.string bytes, d) => bytes.length + uptoBulk d + 1
  | (_, d) => uptoBulk d + 1
 end
def uptoSmall : (H : Type) → List (DataW H) → Bool := fun _ ds => decide (uptoBulkAll ds ≤ 1048576)
def OpenSpec.upto (s : _root_.Go.ChangeSpec) : _root_.Go.OpenSpec := { _root_.Go.OpenSpec.ofChange s with cond := some uptoSmall }

/-- 'cochineallaw04.OpcodeTells', WHERE WHAT IT READS IS OF BULK AT MOST 1048576: true; the input reads as it did. -/
def opcodeTellsUptoRow : OpenClaim := { program := "ytnigcmicimdphaadoor", sum := "5e6c94ba3674e5891ebdd7d60d9a36c1c6a28afac1e09feecf5154b9c427835f", func := "cochineal/cochineallaw04.OpcodeTells", spec := "opcodeTells", named := ["cochineal/opcode.paces"], apart := false, laid := [("cochineal/opcode.paces", laid_cochineal_opcode_paces)], narrowed := true }
def OpcodeTellsUptoSaid : Prop := opcodeTellsUptoRow.holds Tryd.pinned (OpenSpec.upto opcodeTellsSpec)

/-- 'cochineallaw04.OpcodeBack', WHERE WHAT IT READS IS OF BULK AT MOST 1048576: true; the input reads as it did. -/
def opcodeBackUptoRow : OpenClaim := { program := "ytnigcmicimdphaadoor", sum := "5e6c94ba3674e5891ebdd7d60d9a36c1c6a28afac1e09feecf5154b9c427835f", func := "cochineal/cochineallaw04.OpcodeBack", spec := "opcodeBack", unfollowed := true, recurses := true, named := ["cochineal/opcode.paces"], apart := false, laid := [("cochineal/opcode.paces", laid_cochineal_opcode_paces)], narrowed := true }
def OpcodeBackUptoSaid : Prop := opcodeBackUptoRow.holds Tryd.pinned (OpenSpec.upto opcodeBackSpec)

/-- 'cochineallaw04.OpcodeKinds', WHERE WHAT IT READS IS OF BULK AT MOST 1048576: true; the input reads as it did. -/
def opcodeKindsUptoRow : OpenClaim := { program := "ytnigcmicimdphaadoor", sum := "5e6c94ba3674e5891ebdd7d60d9a36c1c6a28afac1e09feecf5154b9c427835f", func := "cochineal/cochineallaw04.OpcodeKinds", spec := "opcodeKinds", named := ["cochineal/opcode.paces"], apart := false, laid := [("cochineal/opcode.paces", laid_cochineal_opcode_paces)], narrowed := true }
def OpcodeKindsUptoSaid : Prop := opcodeKindsUptoRow.holds Tryd.pinned (OpenSpec.upto opcodeKindsSpec)

end Rows
end Go.Proofs.YtnigcmicimdphaaDoor
