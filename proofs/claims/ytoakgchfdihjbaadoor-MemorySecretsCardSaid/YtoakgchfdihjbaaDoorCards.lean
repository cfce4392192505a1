/-
  DERIVED. GIVEN WITH THE SEED: THE CARDS: each row of YtoakgchfdihjbaaDoorRows.lean that lists a variable, with what it lists TIED to the program's text (the seventh form; the later family's looks); each row that meets fmt, with fmt's text TOLD by the authors' own Lean function (tested against real Go, not proved from fmt's source: count such statements apart). THE CARD IS WHAT COUNTS. Prove the row's statement (the work); the ties are given (YtoakgchfdihjbaaDoorTie.lean); close each card by the builder's one call (the guide's Derived/Test/ToyasCard.lean, 'card_holds'). Laid BY PROGRAM, IN A SANDBOX (cutbox-door.mjs). By AI agents, Wed Nov 11 2026. No macro, syntax, notation, axiom, sorry.
-/
import Derived.Test.YtoakgchfdihjbaaDoorRows
import GoSem.ClaimSeven
namespace Go.Proofs.YtoakgchfdihjbaaDoor
namespace Rows

/-- THE TIED CARD OF 'cochineallaw08.MemoryPlays'. -/
def memoryPlaysCard : Claim7 := { stood := { row := memoryPlaysRow, standIns := [], harness := (true, "45dc88c0d68b9eb975e80051a712e91f23fa1448d8ed683fdf5335ff43958a6f"), looks := false }, kinds := [], alts := [], laidByText := true, laidKinds := [.data], laidTests := true, laidLooks := .later }
def MemoryPlaysCardSaid : Prop := Claim7.holds Tryd.pinned (.plain (OpenSpec.ofChange memoryPlaysSpec)) memoryPlaysCard

/-- THE TIED CARD OF 'cochineallaw08.MemorySecrets'. -/
def memorySecretsCard : Claim7 := { stood := { row := memorySecretsRow, standIns := [], harness := (true, "45dc88c0d68b9eb975e80051a712e91f23fa1448d8ed683fdf5335ff43958a6f"), looks := false }, kinds := [], alts := [], laidByText := true, laidKinds := [.data], laidTests := true, laidLooks := .later }
def MemorySecretsCardSaid : Prop := Claim7.holds Tryd.pinned (.plain (OpenSpec.ofChange memorySecretsSpec)) memorySecretsCard

/-- THE TIED CARD OF 'cochineallaw08.MemoryKeeps'. -/
def memoryKeepsCard : Claim7 := { stood := { row := memoryKeepsRow, standIns := [], harness := (true, "45dc88c0d68b9eb975e80051a712e91f23fa1448d8ed683fdf5335ff43958a6f"), looks := false }, kinds := [], alts := [], laidByText := true, laidKinds := [.data], laidTests := true, laidLooks := .later }
def MemoryKeepsCardSaid : Prop := Claim7.holds Tryd.pinned (.plain (OpenSpec.ofChange memoryKeepsSpec)) memoryKeepsCard

/-- THE TIED CARD OF 'cochineallaw08.MemoryNil'. -/
def memoryNilCard : Claim7 := { stood := { row := memoryNilRow, standIns := [], harness := (true, "45dc88c0d68b9eb975e80051a712e91f23fa1448d8ed683fdf5335ff43958a6f"), looks := false }, kinds := [], alts := [], laidByText := true, laidKinds := [.data], laidTests := true, laidLooks := .later }
def MemoryNilCardSaid : Prop := Claim7.holds Tryd.pinned (.plain (OpenSpec.ofChange memoryNilSpec)) memoryNilCard

/-- THE TIED CARD OF 'cochineallaw08.MemoryLoads'. -/
def memoryLoadsCard : Claim7 := { stood := { row := memoryLoadsRow, standIns := [], harness := (true, "45dc88c0d68b9eb975e80051a712e91f23fa1448d8ed683fdf5335ff43958a6f"), looks := false }, kinds := [], alts := [], laidByText := true, laidKinds := [.data], laidTests := true, laidLooks := .later }
def MemoryLoadsCardSaid : Prop := Claim7.holds Tryd.pinned (.plain (OpenSpec.ofChange memoryLoadsSpec)) memoryLoadsCard

/-- THE SECOND FORM's CARD OF 'cochineallaw08.MemoryPlays'. -/
def memoryPlaysUptoCard : Claim7 := { stood := { row := memoryPlaysUptoRow, standIns := [], harness := (true, "45dc88c0d68b9eb975e80051a712e91f23fa1448d8ed683fdf5335ff43958a6f"), looks := false }, kinds := [], alts := [], laidByText := true, laidKinds := [.data], laidTests := true, laidLooks := .later }
def MemoryPlaysUptoCardSaid : Prop := Claim7.holds Tryd.pinned (.plain (OpenSpec.upto memoryPlaysSpec)) memoryPlaysUptoCard

/-- THE SECOND FORM's CARD OF 'cochineallaw08.MemorySecrets'. -/
def memorySecretsUptoCard : Claim7 := { stood := { row := memorySecretsUptoRow, standIns := [], harness := (true, "45dc88c0d68b9eb975e80051a712e91f23fa1448d8ed683fdf5335ff43958a6f"), looks := false }, kinds := [], alts := [], laidByText := true, laidKinds := [.data], laidTests := true, laidLooks := .later }
def MemorySecretsUptoCardSaid : Prop := Claim7.holds Tryd.pinned (.plain (OpenSpec.upto memorySecretsSpec)) memorySecretsUptoCard

/-- THE SECOND FORM's CARD OF 'cochineallaw08.MemoryKeeps'. -/
def memoryKeepsUptoCard : Claim7 := { stood := { row := memoryKeepsUptoRow, standIns := [], harness := (true, "45dc88c0d68b9eb975e80051a712e91f23fa1448d8ed683fdf5335ff43958a6f"), looks := false }, kinds := [], alts := [], laidByText := true, laidKinds := [.data], laidTests := true, laidLooks := .later }
def MemoryKeepsUptoCardSaid : Prop := Claim7.holds Tryd.pinned (.plain (OpenSpec.upto memoryKeepsSpec)) memoryKeepsUptoCard

/-- THE SECOND FORM's CARD OF 'cochineallaw08.MemoryNil'. -/
def memoryNilUptoCard : Claim7 := { stood := { row := memoryNilUptoRow, standIns := [], harness := (true, "45dc88c0d68b9eb975e80051a712e91f23fa1448d8ed683fdf5335ff43958a6f"), looks := false }, kinds := [], alts := [], laidByText := true, laidKinds := [.data], laidTests := true, laidLooks := .later }
def MemoryNilUptoCardSaid : Prop := Claim7.holds Tryd.pinned (.plain (OpenSpec.upto memoryNilSpec)) memoryNilUptoCard

/-- THE SECOND FORM's CARD OF 'cochineallaw08.MemoryLoads'. -/
def memoryLoadsUptoCard : Claim7 := { stood := { row := memoryLoadsUptoRow, standIns := [], harness := (true, "45dc88c0d68b9eb975e80051a712e91f23fa1448d8ed683fdf5335ff43958a6f"), looks := false }, kinds := [], alts := [], laidByText := true, laidKinds := [.data], laidTests := true, laidLooks := .later }
def MemoryLoadsUptoCardSaid : Prop := Claim7.holds Tryd.pinned (.plain (OpenSpec.upto memoryLoadsSpec)) memoryLoadsUptoCard
end Rows
end Go.Proofs.YtoakgchfdihjbaaDoor
