/-
  DERIVED. GIVEN WITH THE SEED: THE CARDS: each row of YtcnejgilmciljaaGreatDoorRows.lean that lists a variable, with what it lists TIED to the program's text (the seventh form; the later family's looks); each row that meets fmt, with fmt's text TOLD by the authors' own Lean function (tested against real Go, not proved from fmt's source: count such statements apart). THE CARD IS WHAT COUNTS. Prove the row's statement (the work); the ties are given (YtcnejgilmciljaaGreatDoorTie.lean); close each card by the builder's one call (the guide's Derived/Test/ToyasCard.lean, 'card_holds'). Laid BY PROGRAM, IN A SANDBOX (cutbox-door.mjs). By AI agents, Wed Nov 11 2026. No macro, syntax, notation, axiom, sorry.
-/
import Derived.Test.YtcnejgilmciljaaGreatDoorRows
import GoSem.ClaimSeven
namespace Go.Proofs.YtcnejgilmciljaaGreatDoor
namespace Rows

/-- THE TIED CARD OF 'cochineallaw13.BusPlays'. -/
def busPlaysCard : Claim7 := { stood := { row := busPlaysRow, standIns := [], harness := (true, "894310a729daadc763252b317966de1b566ac6b46305a40973f1071fec8f5b44"), looks := false }, kinds := [], alts := [], laidByText := true, laidKinds := [.data], laidTests := true, laidLooks := .later }
def BusPlaysCardSaid : Prop := Claim7.holds Tryz.pinned (.plain (OpenSpec.ofChange busPlaysSpec)) busPlaysCard

/-- THE TIED CARD OF 'cochineallaw13.BusLow'. -/
def busLowCard : Claim7 := { stood := { row := busLowRow, standIns := [], harness := (true, "894310a729daadc763252b317966de1b566ac6b46305a40973f1071fec8f5b44"), looks := false }, kinds := [], alts := [], laidByText := true, laidKinds := [.data], laidTests := true, laidLooks := .later }
def BusLowCardSaid : Prop := Claim7.holds Tryz.pinned (.plain (OpenSpec.ofChange busLowSpec)) busLowCard

/-- THE TIED CARD OF 'cochineallaw13.BusKeeps'. -/
def busKeepsCard : Claim7 := { stood := { row := busKeepsRow, standIns := [], harness := (true, "894310a729daadc763252b317966de1b566ac6b46305a40973f1071fec8f5b44"), looks := false }, kinds := [], alts := [], laidByText := true, laidKinds := [.data], laidTests := true, laidLooks := .later }
def BusKeepsCardSaid : Prop := Claim7.holds Tryz.pinned (.plain (OpenSpec.ofChange busKeepsSpec)) busKeepsCard

/-- THE SECOND FORM's CARD OF 'cochineallaw13.BusPlays'. -/
def busPlaysUptoCard : Claim7 := { stood := { row := busPlaysUptoRow, standIns := [], harness := (true, "894310a729daadc763252b317966de1b566ac6b46305a40973f1071fec8f5b44"), looks := false }, kinds := [], alts := [], laidByText := true, laidKinds := [.data], laidTests := true, laidLooks := .later }
def BusPlaysUptoCardSaid : Prop := Claim7.holds Tryz.pinned (.plain (OpenSpec.upto busPlaysSpec)) busPlaysUptoCard

/-- THE SECOND FORM's CARD OF 'cochineallaw13.BusLow'. -/
def busLowUptoCard : Claim7 := { stood := { row := busLowUptoRow, standIns := [], harness := (true, "894310a729daadc763252b317966de1b566ac6b46305a40973f1071fec8f5b44"), looks := false }, kinds := [], alts := [], laidByText := true, laidKinds := [.data], laidTests := true, laidLooks := .later }
def BusLowUptoCardSaid : Prop := Claim7.holds Tryz.pinned (.plain (OpenSpec.upto busLowSpec)) busLowUptoCard

/-- THE SECOND FORM's CARD OF 'cochineallaw13.BusKeeps'. -/
def busKeepsUptoCard : Claim7 := { stood := { row := busKeepsUptoRow, standIns := [], harness := (true, "894310a729daadc763252b317966de1b566ac6b46305a40973f1071fec8f5b44"), looks := false }, kinds := [], alts := [], laidByText := true, laidKinds := [.data], laidTests := true, laidLooks := .later }
def BusKeepsUptoCardSaid : Prop := Claim7.holds Tryz.pinned (.plain (OpenSpec.upto busKeepsSpec)) busKeepsUptoCard
end Rows
end Go.Proofs.YtcnejgilmciljaaGreatDoor
