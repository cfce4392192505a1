/-
  Layer 6's document: a letter, a digit's number, what may not stand behind, a number.
-/
import Derived.Test.YtjcmblbnbpikfaaDoorLex
set_option linter.unusedSimpArgs false
set_option linter.unusedVariables false
namespace Go.Proofs.YtjcmblbnbpikfaaDoor
open Go.RowKit Go.PlainAid

theorem isLet_ways (b : UInt8) : ∃ p1 p2 : Bool, decide (97 ≤ bI b) = p1 ∧ decide (bI b ≤ 122) = p2 ∧ isLet b = (p1 && p2) := by
  refine ⟨_, _, rfl, rfl, ?_⟩
  unfold isLet bI
  congr 1 <;> exact dec_eqs (by omega)
theorem digN_ways (b : UInt8) : ∃ p1 p2 p3 p4 : Bool, decide (48 ≤ bI b) = p1 ∧ decide (bI b ≤ 57) = p2 ∧ decide (97 ≤ bI b) = p3 ∧ decide (bI b ≤ 102) = p4 ∧
    ((p1 = true ∧ p2 = true ∧ (digN b : Int) = bI b - 48 ∧ 48 ≤ bI b) ∨ ((p1 && p2) = false ∧ p3 = true ∧ p4 = true ∧ (digN b : Int) = bI b - 87 ∧ 87 ≤ bI b) ∨ ((p1 && p2) = false ∧ (p3 && p4) = false ∧ (digN b : Int) = 99)) := by
  refine ⟨_, _, _, _, rfl, rfl, rfl, rfl, ?_⟩
  unfold digN bI
  by_cases h1 : 48 ≤ b.toNat ∧ b.toNat ≤ 57
  · rw [if_pos h1]
    exact .inl ⟨by simp; omega, by simp; omega, by omega, by omega⟩
  · rw [if_neg h1]
    by_cases h2 : 97 ≤ b.toNat ∧ b.toNat ≤ 102
    · rw [if_pos h2]
      exact .inr (.inl ⟨by simp; omega, by simp; omega, by simp; omega, by omega, by omega⟩)
    · rw [if_neg h2]
      exact .inr (.inr ⟨by simp; omega, by simp; omega, rfl⟩)
theorem dig_lt (b : UInt8) (base : Nat) : decide ((digN b : Int) < (base : Int)) = isDig base b := by unfold isDig; exact dec_eqs (by omega)
theorem glue_ways (b : UInt8) : isGlue b = (isLet b || (decide ((digN b : Int) < 10) || (bI b == 36))) := by
  unfold isGlue
  rw [bI_eq b 36 36 rfl, show decide ((digN b : Int) < 10) = isDig 10 b from dig_lt b 10, Bool.or_assoc]
theorem glueAt_in (l : List UInt8) (k : Nat) (h : k < l.length) : glueAt l k = isGlue (at8 l k) := by unfold glueAt; rw [at8_some l k h]
theorem glueAt_end (l : List UInt8) (k : Nat) (h : l.length ≤ k) : glueAt l k = false := by unfold glueAt; rw [List.getElem?_eq_none h]
theorem min_if (x : Int) : (if x < 65536 then x else 65536) = min 65536 x := by split <;> omega
theorem numV_stop (base : Nat) (l : List UInt8) (k : Nat) (n : Int) (h : l.length ≤ k) : numV base (l.drop k) n = n := by rw [List.drop_eq_nil_of_le h]; rfl
theorem numV_no (base : Nat) (l : List UInt8) (k : Nat) (n : Int) (h : k < l.length) (hp : isDig base (at8 l k) = false) : numV base (l.drop k) n = n := by
  rw [List.drop_eq_getElem_cons h]
  rw [at8_get l k h] at hp
  show (if _ then _ else _) = _
  rw [hp]
  rfl
theorem numV_yes (base : Nat) (l : List UInt8) (k : Nat) (n : Int) (h : k < l.length) (hp : isDig base (at8 l k) = true) : numV base (l.drop k) n = numV base (l.drop (k + 1)) (min 65536 (n * base + digN (at8 l k))) := by
  rw [List.drop_eq_getElem_cons h]
  rw [at8_get l k h] at hp ⊢
  show (if _ then _ else _) = _
  rw [hp]
  rfl
end Go.Proofs.YtjcmblbnbpikfaaDoor
