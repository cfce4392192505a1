/-
  Numbers' sums: V and N of the binary sum and difference; the number back; decimal digits.
-/
import Derived.Test.YtdmgdldadpkhgaaVal
set_option linter.unusedSimpArgs false
set_option linter.unusedVariables false
namespace Go.Proofs.Ytdmgdldadpkhgaa

theorem u8_ofInt (n : Int) : u8 (BitVec.ofInt 8 n) = n % 256 := (u8_byte n).symm
theorem sgn_ofInt (n : Int) (h : -128 ≤ n) (h' : n ≤ 127) : sgn (u8 (BitVec.ofInt 8 n)) = n := by
  rw [u8_ofInt]; unfold sgn; split <;> omega
theorem u8_not_eq (x : BitVec 8) : u8 (~~~x) = 255 - u8 x := by
  unfold u8; rw [BitVec.toNat_not]; have := x.isLt; omega
theorem addV_v (m n : Int) (c : Bool) (h1 : -128 ≤ m) (h2 : m ≤ 127) (h3 : -128 ≤ n) (h4 : n ≤ 127) :
    (addV (BitVec.ofInt 8 m) (BitVec.ofInt 8 n) c).v = (decide (m + n + cnt c < -128) || decide (127 < m + n + cnt c)) := by
  show bey (sgn _ + sgn _ + cnt c) = _
  rw [sgn_ofInt m h1 h2, sgn_ofInt n h3 h4]
  rfl
theorem not_ofInt (n : Int) : ~~~(BitVec.ofInt 8 n) = BitVec.ofInt 8 (-n - 1) := by
  apply BitVec.eq_of_toNat_eq
  have h1 := u8_not_eq (BitVec.ofInt 8 n)
  rw [u8_ofInt] at h1
  have h2 := u8_ofInt (-n - 1)
  unfold u8 at h1 h2
  omega
theorem nb_sum (m n : Int) (c : Bool) (h1 : -128 ≤ m) (h2 : m ≤ 127) (h3 : -128 ≤ n) (h4 : n ≤ 127) :
    ((addV (BitVec.ofInt 8 m) (BitVec.ofInt 8 n) c).n != (addV (BitVec.ofInt 8 m) (BitVec.ofInt 8 n) c).v) = decide (m + n + cnt c < 0) := by
  rw [addV_v m n c h1 h2 h3 h4]
  show (nb (sumB _ _ c) != _) = _
  unfold nb sumB
  rw [u8_ofInt, u8_ofInt]
  have c1 := cnt_lo c
  have c2 := cnt_hi c
  have e : ∀ z : Int, (z == 1) = decide (z = 1) := fun z => by rw [Bool.eq_iff_iff, beq_iff_eq, decide_eq_true_eq]
  rw [e]
  by_cases hA : m + n + cnt c < -128
  · rw [decide_eq_true hA, decide_eq_false (show ¬ (m % 256 + n % 256 + cnt c) / 128 % 2 = 1 by omega), decide_eq_true (show m + n + cnt c < 0 by omega)]
    rfl
  · by_cases hB : 127 < m + n + cnt c
    · rw [decide_eq_false hA, decide_eq_true hB, decide_eq_true (show (m % 256 + n % 256 + cnt c) / 128 % 2 = 1 by omega), decide_eq_false (show ¬ m + n + cnt c < 0 by omega)]
      rfl
    · rw [decide_eq_false hA, decide_eq_false hB]
      by_cases hC : m + n + cnt c < 0
      · rw [decide_eq_true hC, decide_eq_true (show (m % 256 + n % 256 + cnt c) / 128 % 2 = 1 by omega)]
        rfl
      · rw [decide_eq_false hC, decide_eq_false (show ¬ (m % 256 + n % 256 + cnt c) / 128 % 2 = 1 by omega)]
        rfl
end Go.Proofs.Ytdmgdldadpkhgaa
