/-
  Which register letters are: the plain function; and of the letters that a register has it is the register but for what secrets are.
-/
import Derived.Test.YtdpoonmgailonaaDoorRText
set_option linter.unusedSimpArgs false
set_option linter.unusedVariables false
namespace Go.Proofs.YtdpoonmgailonaaDoor
open Go.RowKit Go.PlainAid

/-- Of the first k letters: whether they are letters; the register so far. -/
def okAt (s : ByteArray) (k : Nat) : Bool := bt s k == 63 || bt s k == lt k || bt s k == lt k + 32
def goodTo (s : ByteArray) : Nat → Bool
  | 0 => true
  | k + 1 => goodTo s k && okAt s k
def accV (s : ByteArray) : Nat → BitVec 8
  | 0 => 0#8
  | k + 1 => setI (accV s k) (7 - k) (bt s k == lt k)
def accT (s : ByteArray) : Nat → BitVec 8
  | 0 => 0#8
  | k + 1 => setI (accT s k) (7 - k) (bt s k == 63)
def isReg (s : ByteArray) : Bool := s.size == 8 && goodTo s 8
def pV (s : ByteArray) : BitVec 8 := if isReg s then accV s 8 else 0#8
def pT (s : ByteArray) : BitVec 8 := if isReg s then accT s 8 else 0#8
def pE (s : ByteArray) : Int := if isReg s then 0 else 11
theorem goodTo_le (s : ByteArray) : ∀ n k, k ≤ n → goodTo s n = true → goodTo s k = true
  | 0, k, h, hg => by obtain rfl : k = 0 := by omega
                      rfl
  | n + 1, k, h, hg => by
    by_cases e : k = n + 1
    · subst e; exact hg
    · refine goodTo_le s n k (by omega) ?_
      have : (goodTo s n && okAt s n) = true := hg
      simp only [Bool.and_eq_true] at this
      exact this.1
theorem not_reg_size {s : ByteArray} (h : s.size ≠ 8) : isReg s = false := by unfold isReg; simp [h]
theorem not_reg_at {s : ByteArray} (k : Nat) (hk : k < 8) (h : okAt s k = false) : isReg s = false := by
  cases hr : isReg s with
  | false => rfl
  | true =>
    unfold isReg at hr
    simp only [Bool.and_eq_true] at hr
    have := goodTo_le s 8 (k + 1) (by omega) hr.2
    have h2 : (goodTo s k && okAt s k) = true := this
    rw [h] at h2
    simp at h2
theorem is_reg {s : ByteArray} (h : s.size = 8) (hg : goodTo s 8 = true) : isReg s = true := by unfold isReg; simp [h, hg]

theorem pV_no {s : ByteArray} (h : isReg s = false) : pV s = 0#8 := by unfold pV; rw [h]; rfl
theorem pT_no {s : ByteArray} (h : isReg s = false) : pT s = 0#8 := by unfold pT; rw [h]; rfl
theorem pE_no {s : ByteArray} (h : isReg s = false) : pE s = 11 := by unfold pE; rw [h]; rfl
theorem pV_yes {s : ByteArray} (h : isReg s = true) : pV s = accV s 8 := by unfold pV; rw [h]; rfl
theorem pT_yes {s : ByteArray} (h : isReg s = true) : pT s = accT s 8 := by unfold pT; rw [h]; rfl
theorem pE_yes {s : ByteArray} (h : isReg s = true) : pE s = 0 := by unfold pE; rw [h]; rfl

/-- One of four ways. -/
theorem way (s : ByteArray) (k : Nat) (hk : k < 8) :
    (((bt s k == 63) = true ∧ (bt s k == lt k) = false ∧ (bt s k == lt k + 32) = false) ∧ okAt s k = true) ∨
    (((bt s k == 63) = false ∧ (bt s k == lt k) = true ∧ (bt s k == lt k + 32) = false) ∧ okAt s k = true) ∨
    (((bt s k == 63) = false ∧ (bt s k == lt k) = false ∧ (bt s k == lt k + 32) = true) ∧ okAt s k = true) ∨
    (((bt s k == 63) = false ∧ (bt s k == lt k) = false ∧ (bt s k == lt k + 32) = false) ∧ okAt s k = false) := by
  have hlo := lt_lo k hk
  have hhi := lt_hi k hk
  unfold okAt
  by_cases h1 : bt s k = 63
  · left; simp [h1]; omega
  · by_cases h2 : bt s k = lt k
    · right; left; simp [h2]; omega
    · by_cases h3 : bt s k = lt k + 32
      · right; right; left; simp [h3]; omega
      · right; right; right; simp [h1, h2, h3]
end Go.Proofs.YtdpoonmgailonaaDoor
