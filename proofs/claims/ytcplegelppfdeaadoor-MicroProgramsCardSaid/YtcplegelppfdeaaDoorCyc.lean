/-
  How many cycles a name takes at least, in a mode: the document's answer.
-/
import Derived.Test.YtcplegelppfdeaaDoorKind
set_option linter.unusedSimpArgs false
set_option linter.unusedVariables false
namespace Go.Proofs.YtcplegelppfdeaaDoor
open Go.RowKit Go.PlainAid

def tR (m : Int) : Int := [0, 0, 2, 3, 4, 4, 4, 4, 4, 6, 5, 0, 0].getD m.toNat 0
def tW (m : Int) : Int := [0, 0, 0, 3, 4, 4, 4, 5, 5, 6, 6, 0, 0].getD m.toNat 0
def tT (m : Int) : Int := [0, 0, 0, 5, 6, 0, 6, 7, 0, 0, 0, 0, 0].getD m.toNat 0
theorem kindD_five (s : ByteArray) (m : Int) : kindD s m = 0 ∨ kindD s m = 1 ∨ kindD s m = 2 ∨ kindD s m = 3 ∨ kindD s m = 4 := by
  unfold kindD
  cases inR s <;> cases inW s <;> cases inT s <;> cases inJ s <;> cases (m != 1) <;> cases (m == 12) <;> simp
/-- The cycles of what jumps. -/
def cycJ (s : ByteArray) (m : Int) : Int :=
  if m == 12 then 2 else if m == 11 then 5 else if s.toList == [74, 77, 80] then 3 else if s.toList == [80, 72, 65] then 3 else if s.toList == [80, 72, 80] then 3
  else if s.toList == [80, 76, 65] then 4 else if s.toList == [80, 76, 80] then 4 else if s.toList == [66, 82, 75] then 7 else 6
def cycD (s : ByteArray) (m : Int) : Int :=
  if kindD s m = 0 then 2 else if kindD s m = 1 then tR m else if kindD s m = 2 then tW m else if kindD s m = 3 then tT m else cycJ s m
theorem ways8 : ∀ a b c d e f g h : Bool, a = true ∨ (a = false ∧ b = true) ∨ (a = false ∧ b = false ∧ c = true) ∨ (a = false ∧ b = false ∧ c = false ∧ d = true) ∨ (a = false ∧ b = false ∧ c = false ∧ d = false ∧ e = true) ∨
    (a = false ∧ b = false ∧ c = false ∧ d = false ∧ e = false ∧ f = true) ∨ (a = false ∧ b = false ∧ c = false ∧ d = false ∧ e = false ∧ f = false ∧ g = true) ∨
    (a = false ∧ b = false ∧ c = false ∧ d = false ∧ e = false ∧ f = false ∧ g = false ∧ h = true) ∨ (a = false ∧ b = false ∧ c = false ∧ d = false ∧ e = false ∧ f = false ∧ g = false ∧ h = false) := by
  intro a b c d e f g h
  cases a <;> cases b <;> cases c <;> cases d <;> cases e <;> cases f <;> cases g <;> cases h <;> simp

end Go.Proofs.YtcplegelppfdeaaDoor
