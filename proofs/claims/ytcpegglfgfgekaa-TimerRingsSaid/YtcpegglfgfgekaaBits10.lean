/-
  Bits of numbers: a word's low byte, its high byte; a byte's bits.
-/
import Derived.WalkKit
import Derived.IntWalk
import Derived.Laws.BitsAllLaws
import Derived.Test.YtcpegglfgfgekaaTm10
set_option linter.unusedSimpArgs false
set_option linter.unusedVariables false
namespace Go.Proofs.Ytcpegglfgfgekaa

theorem ofInt_w (a : Nat) (ha : a < 65536) : (BitVec.ofInt 64 (a : Int)).toNat = a := by
  rw [BitVec.ofInt_natCast, BitVec.toNat_ofNat]; exact Nat.mod_eq_of_lt (by omega)
theorem w_or_nat (a b : Nat) (ha : a < 65536) (hb : b < 65536) : bits .or .i64 (a : Int) (b : Int) = ((a ||| b : Nat) : Int) := by
  have hx : a ||| b < 2 ^ 16 := Nat.or_lt_two_pow (by omega) (by omega)
  show IntKind.i64.wrap ((BitVec.ofInt 64 (a : Int) ||| BitVec.ofInt 64 (b : Int)).toNat : Int) = _
  rw [BitVec.toNat_or, ofInt_w a ha, ofInt_w b hb]
  exact IntWalk.i64_in _ (by omega)
theorem w_andNot_nat (a b : Nat) (ha : a < 65536) (hb : b < 65536) : bits .andNot .i64 (a : Int) (b : Int) = ((a &&& (18446744073709551615 - b) : Nat) : Int) := by
  have hx : a &&& (18446744073709551615 - b) ≤ a := Nat.and_le_left
  show IntKind.i64.wrap ((BitVec.ofInt 64 (a : Int) &&& ~~~BitVec.ofInt 64 (b : Int)).toNat : Int) = _
  rw [BitVec.toNat_and, BitVec.toNat_not, ofInt_w a ha, ofInt_w b hb]
  have e : 2 ^ 64 - 1 - b = 18446744073709551615 - b := by omega
  rw [e]
  exact IntWalk.i64_in _ (by omega)
theorem or_low (q v : Nat) (hv : v < 256) : q * 256 ||| v = q * 256 + v := by
  have := Nat.shiftLeft_add_eq_or_of_lt (i := 8) (b := v) (by omega) q
  rw [Nat.shiftLeft_eq, show (2 : Nat) ^ 8 = 256 from rfl] at this
  omega
theorem low_byte (l v : Int) (hl : 0 ≤ l ∧ l < 65536) (hv : 0 ≤ v ∧ v ≤ 255) : bits .or .i64 (bits .andNot .i64 l 255) v = l / 256 * 256 + v := by
  obtain ⟨a, rfl⟩ : ∃ a : Nat, l = (a : Int) := ⟨l.toNat, by omega⟩
  obtain ⟨b, rfl⟩ : ∃ b : Nat, v = (b : Int) := ⟨v.toNat, by omega⟩
  have h1 := w_andNot_nat a 255 (by omega) (by omega)
  rw [show (18446744073709551615 - 255 : Nat) = 18446744073709551360 from rfl, nat_hi64_8, Nat.mod_eq_of_lt (by omega)] at h1
  rw [show ((255 : Nat) : Int) = 255 from rfl] at h1
  rw [h1, w_or_nat _ _ (by omega) (by omega), or_low _ _ (by omega)]
  omega
theorem mask_low (a : Nat) (ha : a < 65536) : a &&& 18446744073709486335 = a % 256 := by
  have e : a &&& 65535 = a := by
    rw [show (65535 : Nat) = 2 ^ 16 - 1 from rfl, Nat.and_two_pow_sub_one_eq_mod]
    exact Nat.mod_eq_of_lt (by omega)
  have h2 : a &&& 255 = a % 256 := by rw [show (255 : Nat) = 2 ^ 8 - 1 from rfl, Nat.and_two_pow_sub_one_eq_mod]
  rw [← h2]
  conv => lhs; rw [← e]
  rw [Nat.and_assoc, show (65535 &&& 18446744073709486335 : Nat) = 255 by decide]
theorem high_byte (l v : Int) (hl : 0 ≤ l ∧ l < 65536) (hv : 0 ≤ v ∧ v ≤ 255) : bits .or .i64 (bits .andNot .i64 l 65280) (v * 256) = l % 256 + 256 * v := by
  obtain ⟨a, rfl⟩ : ∃ a : Nat, l = (a : Int) := ⟨l.toNat, by omega⟩
  obtain ⟨b, rfl⟩ : ∃ b : Nat, v = (b : Int) := ⟨v.toNat, by omega⟩
  have h1 := w_andNot_nat a 65280 (by omega) (by omega)
  rw [show (18446744073709551615 - 65280 : Nat) = 18446744073709486335 from rfl, mask_low a (by omega)] at h1
  rw [show ((65280 : Nat) : Int) = 65280 from rfl] at h1
  rw [h1, show (b : Int) * 256 = ((b * 256 : Nat) : Int) by omega, w_or_nat _ _ (by omega) (by omega), Nat.or_comm, or_low _ _ (by omega)]
  omega
/-- A property of bytes, by each of them. -/
theorem byte_all (p : Int → Bool) (h : (List.range 256).all (fun n => p (n : Int)) = true) (v : Int) (hv : 0 ≤ v ∧ v ≤ 255) : p v = true := by
  have := List.all_eq_true.1 h v.toNat (List.mem_range.2 (by omega))
  rwa [show (v.toNat : Int) = v by omega] at this
theorem on1 (v : Int) (hv : 0 ≤ v ∧ v ≤ 255) : (bits .and .u8 v 1 == 1) = onT v 1 := by
  have := byte_all (fun v => (bits .and .u8 v 1 == 1) == onT v 1) (by decide +kernel) v hv
  simpa using this
theorem on2 (v : Int) (hv : 0 ≤ v ∧ v ≤ 255) : (bits .and .u8 (v / 2) 1 == 1) = onT v 2 := by
  have := byte_all (fun v => (bits .and .u8 (v / 2) 1 == 1) == onT v 2) (by decide +kernel) v hv
  simpa using this
theorem on4 (v : Int) (hv : 0 ≤ v ∧ v ≤ 255) : (bits .and .u8 (v / 4) 1 == 1) = onT v 4 := by
  have := byte_all (fun v => (bits .and .u8 (v / 4) 1 == 1) == onT v 4) (by decide +kernel) v hv
  simpa using this
/-- The control byte's three bits, read again. -/
theorem ctrl_on (v : Int) (hv : 0 ≤ v ∧ v ≤ 255) : ctrlT (onT v 1) (onT v 2) (onT v 4) = v % 8 := by
  have := byte_all (fun v => ctrlT (onT v 1) (onT v 2) (onT v 4) == v % 8) (by decide +kernel) v hv
  simpa using this
theorem ctrl_byte (r a s : Bool) : 0 ≤ ctrlT r a s ∧ ctrlT r a s ≤ 7 := by cases r <;> cases a <;> cases s <;> decide
end Go.Proofs.Ytcpegglfgfgekaa
