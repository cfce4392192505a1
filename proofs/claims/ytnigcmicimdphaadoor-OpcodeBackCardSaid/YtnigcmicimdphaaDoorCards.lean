/-
  DERIVED. GIVEN WITH THE SEED: THE CARDS: each row of YtnigcmicimdphaaDoorRows.lean that lists a variable, with what it lists TIED to the program's text (the seventh form; the later family's looks); each row that meets fmt, with fmt's text TOLD by the authors' own Lean function (tested against real Go, not proved from fmt's source: count such statements apart). THE CARD IS WHAT COUNTS. Prove the row's statement (the work); the ties are given (YtnigcmicimdphaaDoorTie.lean); close each card by the builder's one call (the guide's Derived/Test/ToyasCard.lean, 'card_holds'). Laid BY PROGRAM, IN A SANDBOX (cutbox-door.mjs). By AI agents, Wed Nov 11 2026. No macro, syntax, notation, axiom, sorry.
-/
import Derived.Test.YtnigcmicimdphaaDoorRows
import GoSem.ClaimSeven
namespace Go.Proofs.YtnigcmicimdphaaDoor
namespace Rows

/-- THE TIED CARD OF 'cochineallaw04.OpcodeTells'. -/
def opcodeTellsCard : Claim7 := { stood := { row := opcodeTellsRow, standIns := [], harness := (true, "ede4cf6249dc04735bcbe237a2a573dac527b734c6647868a2d729374e8ca780"), looks := false }, kinds := [], alts := [], laidByText := true, laidKinds := [.data], laidTests := true, laidLooks := .later }
def OpcodeTellsCardSaid : Prop := Claim7.holds Tryd.pinned (.plain (OpenSpec.ofChange opcodeTellsSpec)) opcodeTellsCard

/-- THE TIED CARD OF 'cochineallaw04.OpcodeBack'. -/
def opcodeBackCard : Claim7 := { stood := { row := opcodeBackRow, standIns := [], harness := (true, "ede4cf6249dc04735bcbe237a2a573dac527b734c6647868a2d729374e8ca780"), looks := false }, kinds := [], alts := [], laidByText := true, laidKinds := [.data], laidTests := true, laidLooks := .later }
def OpcodeBackCardSaid : Prop := Claim7.holds Tryd.pinned (.plain (OpenSpec.ofChange opcodeBackSpec)) opcodeBackCard

/-- THE TIED CARD OF 'cochineallaw04.OpcodeKinds'. -/
def opcodeKindsCard : Claim7 := { stood := { row := opcodeKindsRow, standIns := [], harness := (true, "ede4cf6249dc04735bcbe237a2a573dac527b734c6647868a2d729374e8ca780"), looks := false }, kinds := [], alts := [], laidByText := true, laidKinds := [.data], laidTests := true, laidLooks := .later }
def OpcodeKindsCardSaid : Prop := Claim7.holds Tryd.pinned (.plain (OpenSpec.ofChange opcodeKindsSpec)) opcodeKindsCard

/-- THE SECOND FORM's CARD OF 'cochineallaw04.OpcodeTells'. -/
def opcodeTellsUptoCard : Claim7 := { stood := { row := opcodeTellsUptoRow, standIns := [], harness := (true, "ede4cf6249dc04735bcbe237a2a573dac527b734c6647868a2d729374e8ca780"), looks := false }, kinds := [], alts := [], laidByText := true, laidKinds := [.data], laidTests := true, laidLooks := .later }
def OpcodeTellsUptoCardSaid : Prop := Claim7.holds Tryd.pinned (.plain (OpenSpec.upto opcodeTellsSpec)) opcodeTellsUptoCard

/-- THE SECOND FORM's CARD OF 'cochineallaw04.OpcodeBack'. -/
def opcodeBackUptoCard : Claim7 := { stood := { row := opcodeBackUptoRow, standIns := [], harness := (true, "ede4cf6249dc04735bcbe237a2a573dac527b734c6647868a2d729374e8ca780"), looks := false }, kinds := [], alts := [], laidByText := true, laidKinds := [.data], laidTests := true, laidLooks := .later }
def OpcodeBackUptoCardSaid : Prop := Claim7.holds Tryd.pinned (.plain (OpenSpec.upto opcodeBackSpec)) opcodeBackUptoCard

/-- THE SECOND FORM's CARD OF 'cochineallaw04.OpcodeKinds'. -/
def opcodeKindsUptoCard : Claim7 := { stood := { row := opcodeKindsUptoRow, standIns := [], harness := (true, "ede4cf6249dc04735bcbe237a2a573dac527b734c6647868a2d729374e8ca780"), looks := false }, kinds := [], alts := [], laidByText := true, laidKinds := [.data], laidTests := true, laidLooks := .later }
def OpcodeKindsUptoCardSaid : Prop := Claim7.holds Tryd.pinned (.plain (OpenSpec.upto opcodeKindsSpec)) opcodeKindsUptoCard
end Rows
end Go.Proofs.YtnigcmicimdphaaDoor
