/-
  A timer that was begun, so many rounds later, and one cycle ahead of that.
-/
import Derived.Test.YtcpegglfgfgekaaTm10
set_option linter.unusedSimpArgs false
set_option linter.unusedVariables false
namespace Go.Proofs.Ytcpegglfgfgekaa

theorem rounds_mod (L t : Int) (hL : 0 ≤ L) (h : 1 ≤ t) : ((L + 1) * t - (L + 1)) % (L + 1) = 0 := by
  rw [show (L + 1) * t - (L + 1) = (L + 1) * (t - 1) by rw [Int.mul_sub, Int.mul_one]]
  exact Int.mul_emod_right _ _
theorem rounds_mod1 (L t : Int) (hL : 0 ≤ L) (h : 1 < t) : ((L + 1) * t - 1 - (L + 1)) % (L + 1) = L := by
  have e : (L + 1) * t - 1 - (L + 1) = L + (t - 2) * (L + 1) := by
    rw [Int.sub_mul, Int.mul_comm (L + 1) t]; omega
  rw [e, Int.add_mul_emod_self_right]
  exact Int.emod_eq_of_lt hL (by omega)
theorem rounds_le (L t : Int) (hL : 0 ≤ L) (h : 1 ≤ t) : L < (L + 1) * t := by
  have : (L + 1) * 1 ≤ (L + 1) * t := Int.mul_le_mul_of_nonneg_left h (by omega)
  omega
theorem rounds_gt (L t : Int) (hL : 0 ≤ L) (h : 1 < t) : L < (L + 1) * t - 1 := by
  have : (L + 1) * 2 ≤ (L + 1) * t := Int.mul_le_mul_of_nonneg_left (by omega) (by omega)
  omega
/-- What the timer is behind so many rounds. -/
theorem rings_at (L t : Int) (again : Bool) (hL : 0 ≤ L ∧ L ≤ 65535) (h : 1 ≤ t) :
    afterT ⟨L, L, true, again, true, false⟩ ((L + 1) * t) = if again then ⟨L, L, true, true, true, true⟩ else ⟨L, 0, false, false, true, true⟩ := by
  rw [afterT_past _ _ rfl ⟨⟨hL.1, by dsimp only; omega⟩, hL.1, by dsimp only; omega⟩ (rounds_le L t hL.1 h)]
  dsimp only
  rw [rounds_mod L t hL.1 h]
  cases again <;> rfl
/-- What it is one cycle ahead. -/
theorem rings_ahead (L t : Int) (again : Bool) (hL : 0 ≤ L ∧ L ≤ 65535) (h : 1 ≤ t) :
    afterT ⟨L, L, true, again, true, false⟩ ((L + 1) * t - 1) = if 1 < t then (if again then ⟨L, 0, true, true, true, true⟩ else ⟨L, 0, false, false, true, true⟩) else ⟨L, 0, true, again, true, false⟩ := by
  by_cases h1 : 1 < t
  · rw [if_pos h1, afterT_past _ _ rfl ⟨⟨hL.1, by dsimp only; omega⟩, hL.1, by dsimp only; omega⟩ (rounds_gt L t hL.1 h1)]
    dsimp only
    rw [rounds_mod1 L t hL.1 h1]
    cases again
    · exact afterT_still _ _ rfl
    · rw [show ringT ⟨L, L, true, true, true, false⟩ = ⟨L, L, true, true, true, true⟩ from rfl, afterT_down _ _ rfl hL.1 (Int.le_refl _)]
      dsimp only
      rw [Int.sub_self]; rfl
  · rw [if_neg h1, show t = 1 by omega, Int.mul_one, show L + 1 - 1 = L by omega, afterT_down _ _ rfl hL.1 (Int.le_refl _)]
    dsimp only
    rw [Int.sub_self]
/-- What both have. -/
structure RingsF (U W : Tm) (L t : Int) (again : Bool) : Prop where
  i : (W.g && W.s) = true
  j : (U.g && U.s) = decide (1 < t)
  a : again = true → U.c = 0 ∧ U.r = true ∧ W.c = L ∧ W.r = true
  b : again = false → W.r = false
theorem rings_facts (L t : Int) (again : Bool) (hL : 0 ≤ L ∧ L ≤ 65535) (h : 1 ≤ t) :
    RingsF (afterT ⟨L, L, true, again, true, false⟩ ((L + 1) * t - 1)) (afterT ⟨L, L, true, again, true, false⟩ ((L + 1) * t)) L t again := by
  rw [rings_at L t again hL h, rings_ahead L t again hL h]
  by_cases h1 : 1 < t
  · rw [if_pos h1]
    cases again
    · exact ⟨rfl, by simpa using h1, fun h => (by cases h), fun _ => rfl⟩
    · exact ⟨rfl, by simpa using h1, fun _ => ⟨rfl, rfl, rfl, rfl⟩, fun h => (by cases h)⟩
  · rw [if_neg h1]
    cases again
    · exact ⟨rfl, by simpa using h1, fun h => (by cases h), fun _ => rfl⟩
    · exact ⟨rfl, by simpa using h1, fun _ => ⟨rfl, rfl, rfl, rfl⟩, fun h => (by cases h)⟩
end Go.Proofs.Ytcpegglfgfgekaa
