/-
  DERIVED. GIVEN WITH THE SEED: THE CARDS: each row of YtcplegelppfdeaaDoorRows.lean that lists a variable, with what it lists TIED to the program's text (the seventh form; the later family's looks); each row that meets fmt, with fmt's text TOLD by the authors' own Lean function (tested against real Go, not proved from fmt's source: count such statements apart). THE CARD IS WHAT COUNTS. Prove the row's statement (the work); the ties are given (YtcplegelppfdeaaDoorTie.lean); close each card by the builder's one call (the guide's Derived/Test/ToyasCard.lean, 'card_holds'). Laid BY PROGRAM, IN A SANDBOX (cutbox-door.mjs). By AI agents, Wed Nov 11 2026. No macro, syntax, notation, axiom, sorry.
-/
import Derived.Test.YtcplegelppfdeaaDoorRows
import GoSem.ClaimSeven
namespace Go.Proofs.YtcplegelppfdeaaDoor
namespace Rows

/-- THE TIED CARD OF 'cochineallaw14.MicroPrograms'. -/
def microProgramsCard : Claim7 := { stood := { row := microProgramsRow, standIns := [], harness := (true, "fd66d8f6adb71eb3f3f4e0a8c19bb502ac9ac430b3245c92c24193bb8aceaf92"), looks := false }, kinds := [], alts := [], laidByText := true, laidKinds := [.widerDeep], laidTests := true, laidLooks := .later }
def MicroProgramsCardSaid : Prop := Claim7.holds Tryd.pinned (.plain (OpenSpec.ofChange microProgramsSpec)) microProgramsCard

/-- THE TIED CARD OF 'cochineallaw14.MicroSequences'. -/
def microSequencesCard : Claim7 := { stood := { row := microSequencesRow, standIns := [], harness := (true, "fd66d8f6adb71eb3f3f4e0a8c19bb502ac9ac430b3245c92c24193bb8aceaf92"), looks := false }, kinds := [], alts := [], laidByText := true, laidKinds := [.widerDeep], laidTests := true, laidLooks := .later }
def MicroSequencesCardSaid : Prop := Claim7.holds Tryd.pinned (.plain (OpenSpec.ofChange microSequencesSpec)) microSequencesCard

/-- THE TIED CARD OF 'cochineallaw14.MicroLeast'. -/
def microLeastCard : Claim7 := { stood := { row := microLeastRow, standIns := [], harness := (true, "fd66d8f6adb71eb3f3f4e0a8c19bb502ac9ac430b3245c92c24193bb8aceaf92"), looks := false }, kinds := [], alts := [], laidByText := true, laidKinds := [.data, .widerDeep], laidTests := true, laidLooks := .later }
def MicroLeastCardSaid : Prop := Claim7.holds Tryd.pinned (.plain (OpenSpec.ofChange microLeastSpec)) microLeastCard

/-- THE TIED CARD OF 'cochineallaw14.MicroOwn'. -/
def microOwnCard : Claim7 := { stood := { row := microOwnRow, standIns := [], harness := (true, "fd66d8f6adb71eb3f3f4e0a8c19bb502ac9ac430b3245c92c24193bb8aceaf92"), looks := false }, kinds := [], alts := [], laidByText := true, laidKinds := [.widerDeep], laidTests := true, laidLooks := .later }
def MicroOwnCardSaid : Prop := Claim7.holds Tryd.pinned (.plain (OpenSpec.ofChange microOwnSpec)) microOwnCard

/-- THE TIED CARD OF 'cochineallaw14.MicroWrites'. -/
def microWritesCard : Claim7 := { stood := { row := microWritesRow, standIns := [], harness := (true, "fd66d8f6adb71eb3f3f4e0a8c19bb502ac9ac430b3245c92c24193bb8aceaf92"), looks := false }, kinds := [], alts := [], laidByText := true, laidKinds := [.widerDeep], laidTests := true, laidLooks := .later }
def MicroWritesCardSaid : Prop := Claim7.holds Tryd.pinned (.plain (OpenSpec.ofChange microWritesSpec)) microWritesCard

/-- THE SECOND FORM's CARD OF 'cochineallaw14.MicroPrograms'. -/
def microProgramsUptoCard : Claim7 := { stood := { row := microProgramsUptoRow, standIns := [], harness := (true, "fd66d8f6adb71eb3f3f4e0a8c19bb502ac9ac430b3245c92c24193bb8aceaf92"), looks := false }, kinds := [], alts := [], laidByText := true, laidKinds := [.widerDeep], laidTests := true, laidLooks := .later }
def MicroProgramsUptoCardSaid : Prop := Claim7.holds Tryd.pinned (.plain (OpenSpec.upto microProgramsSpec)) microProgramsUptoCard

/-- THE SECOND FORM's CARD OF 'cochineallaw14.MicroSequences'. -/
def microSequencesUptoCard : Claim7 := { stood := { row := microSequencesUptoRow, standIns := [], harness := (true, "fd66d8f6adb71eb3f3f4e0a8c19bb502ac9ac430b3245c92c24193bb8aceaf92"), looks := false }, kinds := [], alts := [], laidByText := true, laidKinds := [.widerDeep], laidTests := true, laidLooks := .later }
def MicroSequencesUptoCardSaid : Prop := Claim7.holds Tryd.pinned (.plain (OpenSpec.upto microSequencesSpec)) microSequencesUptoCard

/-- THE SECOND FORM's CARD OF 'cochineallaw14.MicroLeast'. -/
def microLeastUptoCard : Claim7 := { stood := { row := microLeastUptoRow, standIns := [], harness := (true, "fd66d8f6adb71eb3f3f4e0a8c19bb502ac9ac430b3245c92c24193bb8aceaf92"), looks := false }, kinds := [], alts := [], laidByText := true, laidKinds := [.data, .widerDeep], laidTests := true, laidLooks := .later }
def MicroLeastUptoCardSaid : Prop := Claim7.holds Tryd.pinned (.plain (OpenSpec.upto microLeastSpec)) microLeastUptoCard

/-- THE SECOND FORM's CARD OF 'cochineallaw14.MicroOwn'. -/
def microOwnUptoCard : Claim7 := { stood := { row := microOwnUptoRow, standIns := [], harness := (true, "fd66d8f6adb71eb3f3f4e0a8c19bb502ac9ac430b3245c92c24193bb8aceaf92"), looks := false }, kinds := [], alts := [], laidByText := true, laidKinds := [.widerDeep], laidTests := true, laidLooks := .later }
def MicroOwnUptoCardSaid : Prop := Claim7.holds Tryd.pinned (.plain (OpenSpec.upto microOwnSpec)) microOwnUptoCard

/-- THE SECOND FORM's CARD OF 'cochineallaw14.MicroWrites'. -/
def microWritesUptoCard : Claim7 := { stood := { row := microWritesUptoRow, standIns := [], harness := (true, "fd66d8f6adb71eb3f3f4e0a8c19bb502ac9ac430b3245c92c24193bb8aceaf92"), looks := false }, kinds := [], alts := [], laidByText := true, laidKinds := [.widerDeep], laidTests := true, laidLooks := .later }
def MicroWritesUptoCardSaid : Prop := Claim7.holds Tryd.pinned (.plain (OpenSpec.upto microWritesSpec)) microWritesUptoCard
end Rows
end Go.Proofs.YtcplegelppfdeaaDoor
