/-
  Layer 5's document: the line that bytes begin with, whatever the bytes and the address.
-/
import Derived.Test.YtpjpoopgafcedaaGreatDoorRead
set_option linter.unusedSimpArgs false
set_option linter.unusedVariables false
namespace Go.Proofs.YtpjpoopgafcedaaGreatDoor
open Go.RowKit Go.PlainAid Go.Joins

/-- A line's number, how many bytes it took, and the error; its opcode is the first byte where there is no error. -/
structure ReadA where
  o : Int
  n : Int
  k : Int
  e : Int
def relN (a n : Int) : Int := if n ≤ 127 then a + 2 + n else a + 2 + (n - 256)
def readM (l : List Int) (b k a : Int) : ReadA :=
  if (l.length : Int) < lenR k then ⟨0, 0, 0, 11⟩ else if 65536 < a + lenR k then ⟨0, 0, 0, 10⟩
  else if k = 12 then (if 0 ≤ relN a (l.getD 1 0) ∧ relN a (l.getD 1 0) ≤ 65535 then ⟨b, relN a (l.getD 1 0), 2, 0⟩ else ⟨0, 0, 0, 10⟩)
  else if lenR k = 1 then ⟨b, 0, 1, 0⟩ else if lenR k = 2 then ⟨b, l.getD 1 0, 2, 0⟩ else ⟨b, l.getD 1 0 + 256 * l.getD 2 0, 3, 0⟩
def readD (l : List Int) (a : Int) : ReadA :=
  if a < 0 ∨ 65535 < a then ⟨0, 0, 0, 10⟩ else match l with
  | [] => ⟨0, 0, 0, 11⟩
  | b :: _ => match placeL.getD b.toNat none with | none => ⟨0, 0, 0, 13⟩ | some p => readM l b ((p % 13 : Nat) : Int) a
theorem some_at {l : List Int} {j : Nat} (h : j < l.length) : l[j]? = some (l.getD j 0) := by
  rw [List.getD_eq_getElem?_getD, List.getElem?_eq_getElem h]; rfl
theorem byte_at {l : List Int} (hb : ∀ x ∈ l, 0 ≤ x ∧ x < 256) {j : Nat} {x : Int} (h : l[j]? = some x) : 0 ≤ x ∧ x < 256 := hb x (List.mem_of_getElem? h)
end Go.Proofs.YtpjpoopgafcedaaGreatDoor
