/-
  Whole numbers as doubles, as the walk meets them.
-/
import Derived.Test.YtkabpnchfhkhgaaDouble
import Derived.Test.YtkabpnchfhkhgaaEnts
import Derived.Laws.ComplexArith
import Derived.WalkLawsBesides
set_option linter.unusedSimpArgs false
set_option linter.unusedVariables false
namespace Go.Proofs.Ytkabpnchfhkhgaa
open Go.RowKit Go.PlainAid

/-- The double of a whole number; no 0 of it is below 0. -/
def zF (n : Int) : Nat := fz (decide (n < 0)) n 0
theorem zF_fine {n : Int} (h : n.natAbs < 2 ^ 53) : Fine (decide (n < 0)) n 0 := ⟨fun _ => rfl, h, by omega⟩
theorem zF_of (n : Int) : floatOfInt .f64 n = zF n := by
  unfold zF fz floatOfInt FloatKind.nearest FloatKind.encode
  rfl
theorem zF_order {m n : Int} (h1 : m.natAbs < 2 ^ 53) (h2 : n.natAbs < 2 ^ 53) : FloatKind.f64.format.order (zF m) (zF n) = some (compare m n) := fz_order (zF_fine h1) (zF_fine h2)
theorem zF_eq {m n : Int} (h1 : m.natAbs < 2 ^ 53) (h2 : n.natAbs < 2 ^ 53) : (FloatKind.f64.format.order (zF m) (zF n) == some .eq) = decide (m = n) := by
  rw [zF_order h1 h2, Int.compare_eq_ite_lt]
  by_cases h : m = n
  · subst h; simp
  · rw [decide_eq_false h]
    rcases Int.lt_or_gt_of_ne h with h3 | h3
    · rw [if_pos h3]; rfl
    · rw [if_neg (by omega), if_pos h3]; rfl
theorem zF_zero : zF 0 = 0 := by decide
theorem zF_one : zF 1 = 4607182418800017408 := by decide
theorem zF_neg1 : zF (-1) = 13830554455654793216 := by decide
theorem zF_add {m n : Int} (h1 : m.natAbs < 2 ^ 53) (h2 : n.natAbs < 2 ^ 53) (h3 : (m + n).natAbs < 2 ^ 53) : floatBits .add .f64 (zF m) (zF n) = some (zF (m + n)) := by
  have := fz_add (zF_fine h1) (zF_fine h2) h3
  unfold zF
  rw [this]
  by_cases h : m + n = 0
  · rw [if_pos h, h]
    have : (decide (m < 0) && decide (n < 0)) = false := by
      by_cases hm : m < 0
      · have : ¬ n < 0 := by omega
        simp [this]
      · simp [hm]
    rw [this]
    rfl
  · rw [if_neg h]
theorem zF_sub {m n : Int} (h1 : m.natAbs < 2 ^ 53) (h2 : n.natAbs < 2 ^ 53) (h3 : (m - n).natAbs < 2 ^ 53) : floatBits .sub .f64 (zF m) (zF n) = some (zF (m - n)) := by
  have := fz_sub (zF_fine h1) (zF_fine h2) h3
  unfold zF
  rw [this]
  by_cases h : m - n = 0
  · rw [if_pos h, h]
    have : (decide (m < 0) && !decide (n < 0)) = false := by
      have e : m = n := by omega
      subst e
      cases decide (m < 0) <;> rfl
    rw [this]
    rfl
  · rw [if_neg h]
/-- Cut to a whole number. -/
theorem fz_int {s : Bool} {n : Int} (h : Fine s n 0) : (FloatKind.f64.decode (fz s n 0)).toInt .zero = some n := by
  have hn := h.n
  show (Ieee.double.read (fz s n 0)).toInt .zero = some n
  rw [read_fz h]
  unfold Ieee.Datum.toInt Ieee.Datum.integral
  dsimp only
  obtain ⟨j, hj⟩ : ∃ j, more n 0 = j := ⟨_, rfl⟩
  rw [hj]
  have e1 : (-((0 + j : Nat) : Int)).toNat = 0 := by omega
  have e2 : (-(-((0 + j : Nat) : Int))).toNat = j := by omega
  rw [e1, e2, Nat.shiftLeft_zero]
  have hc : Ieee.Toward.zero.cut s (n.natAbs * 2 ^ j) j = n.natAbs := by
    by_cases h0 : n = 0
    · subst h0
      unfold Ieee.Toward.cut
      simp
    · have hx : n.natAbs ≠ 0 := by omega
      have hl : j ≤ (n.natAbs * 2 ^ j).log2 := (Nat.le_log2 (Nat.mul_ne_zero hx (Nat.pos_iff_ne_zero.1 (Nat.two_pow_pos _)))).2 (Nat.le_mul_of_pos_left _ (Nat.pos_of_ne_zero hx))
      unfold Ieee.Toward.cut
      have hm : min j ((n.natAbs * 2 ^ j).log2 + 2) = j := Nat.min_eq_left (by omega)
      dsimp only
      rw [hm, Nat.shiftLeft_eq, Nat.one_mul, Nat.mul_div_cancel _ (Nat.two_pow_pos _)]
      simp
  rw [hc]
  congr 1
  have := signed_fz (s := s) (n := n) h.s 0 0
  rw [Nat.pow_zero, Nat.mul_one] at this
  simpa using this
theorem zF_int {n : Int} (h : n.natAbs < 2 ^ 53) : floatToIntVal .f64 (zF n) .i64 = some n := by
  unfold floatToIntVal zF
  rw [fz_int (zF_fine h)]
  dsimp only
  rw [if_pos]
  have : IntKind.i64.min = -9223372036854775808 := by decide
  have h2 : IntKind.i64.max = 9223372036854775807 := by decide
  rw [this, h2]
  rw [p53] at h
  omega
/-- A place, or a way. -/
def cV (x y : Int) : Value := .complex .f64 (zF x) (zF y)
end Go.Proofs.Ytkabpnchfhkhgaa
