/-
  DERIVED. GIVEN WITH THE SEED: THE CARDS: each row of YtcilnbkmaoneaaaDoorRows.lean that lists a variable, with what it lists TIED to the program's text (the seventh form; the later family's looks); each row that meets fmt, with fmt's text TOLD by the authors' own Lean function (tested against real Go, not proved from fmt's source: count such statements apart). THE CARD IS WHAT COUNTS. Prove the row's statement (the work); the ties are given (YtcilnbkmaoneaaaDoorTie.lean); close each card by the builder's one call (the guide's Derived/Test/ToyasCard.lean, 'card_holds'). Laid BY PROGRAM, IN A SANDBOX (cutbox-door.mjs). By AI agents, Wed Nov 11 2026. No macro, syntax, notation, axiom, sorry.
-/
import Derived.Test.YtcilnbkmaoneaaaDoorRows
import GoSem.ClaimSeven
namespace Go.Proofs.YtcilnbkmaoneaaaDoor
namespace Rows

/-- THE TIED CARD OF 'cochineallaw09.LabelsLays'. -/
def labelsLaysCard : Claim7 := { stood := { row := labelsLaysRow, standIns := [], harness := (true, "46aa80b34964b150a328bcb9f6548cff7df7a748cd8a192a364936606e213418"), looks := false }, kinds := [], alts := [], laidByText := true, laidKinds := [.data], laidTests := true, laidLooks := .later }
def LabelsLaysCardSaid : Prop := Claim7.holds Tryd.pinned (.plain (OpenSpec.ofChange labelsLaysSpec)) labelsLaysCard

/-- THE TIED CARD OF 'cochineallaw09.LabelsLow'. -/
def labelsLowCard : Claim7 := { stood := { row := labelsLowRow, standIns := [], harness := (true, "46aa80b34964b150a328bcb9f6548cff7df7a748cd8a192a364936606e213418"), looks := false }, kinds := [], alts := [], laidByText := true, laidKinds := [.data], laidTests := true, laidLooks := .later }
def LabelsLowCardSaid : Prop := Claim7.holds Tryd.pinned (.plain (OpenSpec.ofChange labelsLowSpec)) labelsLowCard

/-- THE TIED CARD OF 'cochineallaw09.LabelsNil'. -/
def labelsNilCard : Claim7 := { stood := { row := labelsNilRow, standIns := [], harness := (true, "46aa80b34964b150a328bcb9f6548cff7df7a748cd8a192a364936606e213418"), looks := false }, kinds := [], alts := [], laidByText := true, laidKinds := [.data], laidTests := true, laidLooks := .later }
def LabelsNilCardSaid : Prop := Claim7.holds Tryd.pinned (.plain (OpenSpec.ofChange labelsNilSpec)) labelsNilCard

/-- THE SECOND FORM's CARD OF 'cochineallaw09.LabelsLays'. -/
def labelsLaysUptoCard : Claim7 := { stood := { row := labelsLaysUptoRow, standIns := [], harness := (true, "46aa80b34964b150a328bcb9f6548cff7df7a748cd8a192a364936606e213418"), looks := false }, kinds := [], alts := [], laidByText := true, laidKinds := [.data], laidTests := true, laidLooks := .later }
def LabelsLaysUptoCardSaid : Prop := Claim7.holds Tryd.pinned (.plain (OpenSpec.upto labelsLaysSpec)) labelsLaysUptoCard

/-- THE SECOND FORM's CARD OF 'cochineallaw09.LabelsLow'. -/
def labelsLowUptoCard : Claim7 := { stood := { row := labelsLowUptoRow, standIns := [], harness := (true, "46aa80b34964b150a328bcb9f6548cff7df7a748cd8a192a364936606e213418"), looks := false }, kinds := [], alts := [], laidByText := true, laidKinds := [.data], laidTests := true, laidLooks := .later }
def LabelsLowUptoCardSaid : Prop := Claim7.holds Tryd.pinned (.plain (OpenSpec.upto labelsLowSpec)) labelsLowUptoCard

/-- THE SECOND FORM's CARD OF 'cochineallaw09.LabelsNil'. -/
def labelsNilUptoCard : Claim7 := { stood := { row := labelsNilUptoRow, standIns := [], harness := (true, "46aa80b34964b150a328bcb9f6548cff7df7a748cd8a192a364936606e213418"), looks := false }, kinds := [], alts := [], laidByText := true, laidKinds := [.data], laidTests := true, laidLooks := .later }
def LabelsNilUptoCardSaid : Prop := Claim7.holds Tryd.pinned (.plain (OpenSpec.upto labelsNilSpec)) labelsNilUptoCard
end Rows
end Go.Proofs.YtcilnbkmaoneaaaDoor
