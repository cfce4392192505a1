/-
  DERIVED. GIVEN WITH THE SEED: THE CARDS: each row of YtcnejgilmciljaaDoorRows.lean that lists a variable, with what it lists TIED to the program's text (the seventh form; the later family's looks); each row that meets fmt, with fmt's text TOLD by the authors' own Lean function (tested against real Go, not proved from fmt's source: count such statements apart). THE CARD IS WHAT COUNTS. Prove the row's statement (the work); the ties are given (YtcnejgilmciljaaDoorTie.lean); close each card by the builder's one call (the guide's Derived/Test/ToyasCard.lean, 'card_holds'). Laid BY PROGRAM, IN A SANDBOX (cutbox-door.mjs). By AI agents, Wed Nov 11 2026. No macro, syntax, notation, axiom, sorry.
-/
import Derived.Test.YtcnejgilmciljaaDoorRows
import GoSem.ClaimSeven
namespace Go.Proofs.YtcnejgilmciljaaDoor
namespace Rows

/-- THE TIED CARD OF 'cochineallaw13.BusNil'. -/
def busNilCard : Claim7 := { stood := { row := busNilRow, standIns := [], harness := (true, "cc22b2e230f874840680cf182524775563ac0bbd8373260b3119fec2fba4f7c3"), looks := false }, kinds := [], alts := [], laidByText := true, laidKinds := [.data], laidTests := true, laidLooks := .later }
def BusNilCardSaid : Prop := Claim7.holds Tryd.pinned (.plain (OpenSpec.ofChange busNilSpec)) busNilCard

/-- THE TIED CARD OF 'cochineallaw13.BusTicks'. -/
def busTicksCard : Claim7 := { stood := { row := busTicksRow, standIns := [], harness := (true, "cc22b2e230f874840680cf182524775563ac0bbd8373260b3119fec2fba4f7c3"), looks := false }, kinds := [], alts := [], laidByText := true, laidKinds := [.data], laidTests := true, laidLooks := .later }
def BusTicksCardSaid : Prop := Claim7.holds Tryd.pinned (.plain (OpenSpec.ofChange busTicksSpec)) busTicksCard

/-- THE SECOND FORM's CARD OF 'cochineallaw13.BusNil'. -/
def busNilUptoCard : Claim7 := { stood := { row := busNilUptoRow, standIns := [], harness := (true, "cc22b2e230f874840680cf182524775563ac0bbd8373260b3119fec2fba4f7c3"), looks := false }, kinds := [], alts := [], laidByText := true, laidKinds := [.data], laidTests := true, laidLooks := .later }
def BusNilUptoCardSaid : Prop := Claim7.holds Tryd.pinned (.plain (OpenSpec.upto busNilSpec)) busNilUptoCard

/-- THE SECOND FORM's CARD OF 'cochineallaw13.BusTicks'. -/
def busTicksUptoCard : Claim7 := { stood := { row := busTicksUptoRow, standIns := [], harness := (true, "cc22b2e230f874840680cf182524775563ac0bbd8373260b3119fec2fba4f7c3"), looks := false }, kinds := [], alts := [], laidByText := true, laidKinds := [.data], laidTests := true, laidLooks := .later }
def BusTicksUptoCardSaid : Prop := Claim7.holds Tryd.pinned (.plain (OpenSpec.upto busTicksSpec)) busTicksUptoCard
end Rows
end Go.Proofs.YtcnejgilmciljaaDoor
