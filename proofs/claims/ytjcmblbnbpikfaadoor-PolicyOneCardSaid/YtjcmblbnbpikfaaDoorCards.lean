/-
  DERIVED. GIVEN WITH THE SEED: THE CARDS: each row of YtjcmblbnbpikfaaDoorRows.lean that lists a variable, with what it lists TIED to the program's text (the seventh form; the later family's looks); each row that meets fmt, with fmt's text TOLD by the authors' own Lean function (tested against real Go, not proved from fmt's source: count such statements apart). THE CARD IS WHAT COUNTS. Prove the row's statement (the work); the ties are given (YtjcmblbnbpikfaaDoorTie.lean); close each card by the builder's one call (the guide's Derived/Test/ToyasCard.lean, 'card_holds'). Laid BY PROGRAM, IN A SANDBOX (cutbox-door.mjs). By AI agents, Wed Nov 11 2026. No macro, syntax, notation, axiom, sorry.
-/
import Derived.Test.YtjcmblbnbpikfaaDoorRows
import GoSem.ClaimSeven
namespace Go.Proofs.YtjcmblbnbpikfaaDoor
namespace Rows

/-- THE TIED CARD OF 'cochineallaw07.PolicyMay'. -/
def policyMayCard : Claim7 := { stood := { row := policyMayRow, standIns := [], harness := (true, "8f5eae95c0cf213ef850bae7b5266e5befa173d48f15b0b19a05cd14d5407c0b"), looks := false }, kinds := [], alts := [], laidByText := true, laidKinds := [.data, .data, .data, .data, .pinned], laidTests := true, laidLooks := .later }
def PolicyMayCardSaid : Prop := Claim7.holds Tryd.pinned (.plain (OpenSpec.ofChange policyMaySpec)) policyMayCard

/-- THE TIED CARD OF 'cochineallaw07.PolicyLines'. -/
def policyLinesCard : Claim7 := { stood := { row := policyLinesRow, standIns := [], harness := (true, "8f5eae95c0cf213ef850bae7b5266e5befa173d48f15b0b19a05cd14d5407c0b"), looks := false }, kinds := [], alts := [], laidByText := true, laidKinds := [.data, .data, .data, .data, .pinned], laidTests := true, laidLooks := .later }
def PolicyLinesCardSaid : Prop := Claim7.holds Tryd.pinned (.plain (OpenSpec.ofChange policyLinesSpec)) policyLinesCard

/-- THE TIED CARD OF 'cochineallaw07.PolicyOne'. -/
def policyOneCard : Claim7 := { stood := { row := policyOneRow, standIns := [], harness := (true, "8f5eae95c0cf213ef850bae7b5266e5befa173d48f15b0b19a05cd14d5407c0b"), looks := false }, kinds := [], alts := [], laidByText := true, laidKinds := [.data, .data, .data, .data, .pinned], laidTests := true, laidLooks := .later }
def PolicyOneCardSaid : Prop := Claim7.holds Tryd.pinned (.plain (OpenSpec.ofChange policyOneSpec)) policyOneCard

/-- THE SECOND FORM's CARD OF 'cochineallaw07.PolicyMay'. -/
def policyMayUptoCard : Claim7 := { stood := { row := policyMayUptoRow, standIns := [], harness := (true, "8f5eae95c0cf213ef850bae7b5266e5befa173d48f15b0b19a05cd14d5407c0b"), looks := false }, kinds := [], alts := [], laidByText := true, laidKinds := [.data, .data, .data, .data, .pinned], laidTests := true, laidLooks := .later }
def PolicyMayUptoCardSaid : Prop := Claim7.holds Tryd.pinned (.plain (OpenSpec.upto policyMaySpec)) policyMayUptoCard

/-- THE SECOND FORM's CARD OF 'cochineallaw07.PolicyLines'. -/
def policyLinesUptoCard : Claim7 := { stood := { row := policyLinesUptoRow, standIns := [], harness := (true, "8f5eae95c0cf213ef850bae7b5266e5befa173d48f15b0b19a05cd14d5407c0b"), looks := false }, kinds := [], alts := [], laidByText := true, laidKinds := [.data, .data, .data, .data, .pinned], laidTests := true, laidLooks := .later }
def PolicyLinesUptoCardSaid : Prop := Claim7.holds Tryd.pinned (.plain (OpenSpec.upto policyLinesSpec)) policyLinesUptoCard

/-- THE SECOND FORM's CARD OF 'cochineallaw07.PolicyOne'. -/
def policyOneUptoCard : Claim7 := { stood := { row := policyOneUptoRow, standIns := [], harness := (true, "8f5eae95c0cf213ef850bae7b5266e5befa173d48f15b0b19a05cd14d5407c0b"), looks := false }, kinds := [], alts := [], laidByText := true, laidKinds := [.data, .data, .data, .data, .pinned], laidTests := true, laidLooks := .later }
def PolicyOneUptoCardSaid : Prop := Claim7.holds Tryd.pinned (.plain (OpenSpec.upto policyOneSpec)) policyOneUptoCard
end Rows
end Go.Proofs.YtjcmblbnbpikfaaDoor
