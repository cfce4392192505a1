/-
  DERIVED. GIVEN WITH THE SEED: THE CARDS: each row of YtpjpoopgafcedaaDoorRows.lean that lists a variable, with what it lists TIED to the program's text (the seventh form; the later family's looks); each row that meets fmt, with fmt's text TOLD by the authors' own Lean function (tested against real Go, not proved from fmt's source: count such statements apart). THE CARD IS WHAT COUNTS. Prove the row's statement (the work); the ties are given (YtpjpoopgafcedaaDoorTie.lean); close each card by the builder's one call (the guide's Derived/Test/ToyasCard.lean, 'card_holds'). Laid BY PROGRAM, IN A SANDBOX (cutbox-door.mjs). By AI agents, Wed Nov 11 2026. No macro, syntax, notation, axiom, sorry.
-/
import Derived.Test.YtpjpoopgafcedaaDoorRows
import GoSem.ClaimSeven
namespace Go.Proofs.YtpjpoopgafcedaaDoor
namespace Rows

/-- THE TIED CARD OF 'cochineallaw05.AsmPrints'. -/
def asmPrintsCard : Claim7 := { stood := { row := asmPrintsRow, standIns := [], harness := (true, "02642c287e5262cabb02552c68607be5d7c0b43b2a8565793e7a7abd8807bc8c"), looks := true }, kinds := [], alts := [], laidByText := true, laidKinds := [.data, .data, .data, .data, .sentinel, .sentinel, .wider, .pinned, .pinned], laidTests := true, laidLooks := .later }
def AsmPrintsCardSaid : Prop := Claim7.holds Tryd.pinned (.plain (OpenSpec.ofChange asmPrintsSpec)) asmPrintsCard

/-- THE TIED CARD OF 'cochineallaw05.AsmBytes'. -/
def asmBytesCard : Claim7 := { stood := { row := asmBytesRow, standIns := [], harness := (true, "02642c287e5262cabb02552c68607be5d7c0b43b2a8565793e7a7abd8807bc8c"), looks := true }, kinds := [], alts := [], laidByText := true, laidKinds := [.data, .data, .data, .data, .wider, .pinned, .pinned], laidTests := true, laidLooks := .later }
def AsmBytesCardSaid : Prop := Claim7.holds Tryd.pinned (.plain (OpenSpec.ofChange asmBytesSpec)) asmBytesCard

/-- THE TIED CARD OF 'cochineallaw05.AsmLists'. -/
def asmListsCard : Claim7 := { stood := { row := asmListsRow, standIns := [], harness := (true, "02642c287e5262cabb02552c68607be5d7c0b43b2a8565793e7a7abd8807bc8c"), looks := true }, kinds := [], alts := [], laidByText := true, laidKinds := [.data, .data, .data, .data, .wider, .pinned, .pinned], laidTests := true, laidLooks := .later }
def AsmListsCardSaid : Prop := Claim7.holds Tryd.pinned (.plain (OpenSpec.ofChange asmListsSpec)) asmListsCard

/-- THE TIED CARD OF 'cochineallaw05.AsmBack'. -/
def asmBackCard : Claim7 := { stood := { row := asmBackRow, standIns := [], harness := (true, "02642c287e5262cabb02552c68607be5d7c0b43b2a8565793e7a7abd8807bc8c"), looks := true }, kinds := [], alts := [], laidByText := true, laidKinds := [.data, .data, .data, .data, .sentinel, .sentinel, .wider, .pinned, .pinned], laidTests := true, laidLooks := .later }
def AsmBackCardSaid : Prop := Claim7.holds Tryd.pinned (.plain (OpenSpec.ofChange asmBackSpec)) asmBackCard

/-- THE TIED CARD OF 'cochineallaw05.AsmWhole'. -/
def asmWholeCard : Claim7 := { stood := { row := asmWholeRow, standIns := [], harness := (true, "02642c287e5262cabb02552c68607be5d7c0b43b2a8565793e7a7abd8807bc8c"), looks := true }, kinds := [], alts := [], laidByText := true, laidKinds := [.data, .data, .data, .data, .sentinel, .sentinel, .wider, .pinned, .pinned], laidTests := true, laidLooks := .later }
def AsmWholeCardSaid : Prop := Claim7.holds Tryd.pinned (.plain (OpenSpec.ofChange asmWholeSpec)) asmWholeCard

/-- THE TIED CARD OF 'cochineallaw05.AsmMoves'. -/
def asmMovesCard : Claim7 := { stood := { row := asmMovesRow, standIns := [], harness := (true, "02642c287e5262cabb02552c68607be5d7c0b43b2a8565793e7a7abd8807bc8c"), looks := true }, kinds := [], alts := [], laidByText := true, laidKinds := [.data, .data, .data, .data, .wider, .pinned, .pinned], laidTests := true, laidLooks := .later }
def AsmMovesCardSaid : Prop := Claim7.holds Tryd.pinned (.plain (OpenSpec.ofChange asmMovesSpec)) asmMovesCard

/-- THE SECOND FORM's CARD OF 'cochineallaw05.AsmPrints'. -/
def asmPrintsUptoCard : Claim7 := { stood := { row := asmPrintsUptoRow, standIns := [], harness := (true, "02642c287e5262cabb02552c68607be5d7c0b43b2a8565793e7a7abd8807bc8c"), looks := true }, kinds := [], alts := [], laidByText := true, laidKinds := [.data, .data, .data, .data, .sentinel, .sentinel, .wider, .pinned, .pinned], laidTests := true, laidLooks := .later }
def AsmPrintsUptoCardSaid : Prop := Claim7.holds Tryd.pinned (.plain (OpenSpec.upto asmPrintsSpec)) asmPrintsUptoCard

/-- THE SECOND FORM's CARD OF 'cochineallaw05.AsmBytes'. -/
def asmBytesUptoCard : Claim7 := { stood := { row := asmBytesUptoRow, standIns := [], harness := (true, "02642c287e5262cabb02552c68607be5d7c0b43b2a8565793e7a7abd8807bc8c"), looks := true }, kinds := [], alts := [], laidByText := true, laidKinds := [.data, .data, .data, .data, .wider, .pinned, .pinned], laidTests := true, laidLooks := .later }
def AsmBytesUptoCardSaid : Prop := Claim7.holds Tryd.pinned (.plain (OpenSpec.upto asmBytesSpec)) asmBytesUptoCard

/-- THE SECOND FORM's CARD OF 'cochineallaw05.AsmLists'. -/
def asmListsUptoCard : Claim7 := { stood := { row := asmListsUptoRow, standIns := [], harness := (true, "02642c287e5262cabb02552c68607be5d7c0b43b2a8565793e7a7abd8807bc8c"), looks := true }, kinds := [], alts := [], laidByText := true, laidKinds := [.data, .data, .data, .data, .wider, .pinned, .pinned], laidTests := true, laidLooks := .later }
def AsmListsUptoCardSaid : Prop := Claim7.holds Tryd.pinned (.plain (OpenSpec.upto asmListsSpec)) asmListsUptoCard

/-- THE SECOND FORM's CARD OF 'cochineallaw05.AsmBack'. -/
def asmBackUptoCard : Claim7 := { stood := { row := asmBackUptoRow, standIns := [], harness := (true, "02642c287e5262cabb02552c68607be5d7c0b43b2a8565793e7a7abd8807bc8c"), looks := true }, kinds := [], alts := [], laidByText := true, laidKinds := [.data, .data, .data, .data, .sentinel, .sentinel, .wider, .pinned, .pinned], laidTests := true, laidLooks := .later }
def AsmBackUptoCardSaid : Prop := Claim7.holds Tryd.pinned (.plain (OpenSpec.upto asmBackSpec)) asmBackUptoCard

/-- THE SECOND FORM's CARD OF 'cochineallaw05.AsmWhole'. -/
def asmWholeUptoCard : Claim7 := { stood := { row := asmWholeUptoRow, standIns := [], harness := (true, "02642c287e5262cabb02552c68607be5d7c0b43b2a8565793e7a7abd8807bc8c"), looks := true }, kinds := [], alts := [], laidByText := true, laidKinds := [.data, .data, .data, .data, .sentinel, .sentinel, .wider, .pinned, .pinned], laidTests := true, laidLooks := .later }
def AsmWholeUptoCardSaid : Prop := Claim7.holds Tryd.pinned (.plain (OpenSpec.upto asmWholeSpec)) asmWholeUptoCard

/-- THE SECOND FORM's CARD OF 'cochineallaw05.AsmMoves'. -/
def asmMovesUptoCard : Claim7 := { stood := { row := asmMovesUptoRow, standIns := [], harness := (true, "02642c287e5262cabb02552c68607be5d7c0b43b2a8565793e7a7abd8807bc8c"), looks := true }, kinds := [], alts := [], laidByText := true, laidKinds := [.data, .data, .data, .data, .wider, .pinned, .pinned], laidTests := true, laidLooks := .later }
def AsmMovesUptoCardSaid : Prop := Claim7.holds Tryd.pinned (.plain (OpenSpec.upto asmMovesSpec)) asmMovesUptoCard
end Rows
end Go.Proofs.YtpjpoopgafcedaaDoor
