/-
  Bytes as bit vectors behind one name that the walk does not open: 'u8 x' is the number of x. The model's operations on bytes, said of it.
-/
import Derived.WalkKit
import Derived.Laws.BitsAllLaws
namespace Go.Proofs.YtcnejgilmciljaaGreatDoor

def u8 (x : BitVec 8) : Int := (x.toNat : Int)
theorem u8_def (x : BitVec 8) : u8 x = (x.toNat : Int) := rfl
theorem u8_lo (x : BitVec 8) : 0 ≤ u8 x := by unfold u8; omega
theorem u8_hi (x : BitVec 8) : u8 x < 256 := by unfold u8; have := x.isLt; omega
theorem u8_of (n : Int) (h : 0 ≤ n) (h' : n < 256) : ∃ x : BitVec 8, n = u8 x := by
  refine ⟨BitVec.ofNat 8 n.toNat, ?_⟩
  unfold u8; rw [BitVec.toNat_ofNat, Nat.mod_eq_of_lt (by omega)]; omega
theorem u8_inj (x y : BitVec 8) : (u8 x = u8 y) = (x = y) := by
  unfold u8
  apply propext
  constructor
  · intro h; exact BitVec.eq_of_toNat_eq (by omega)
  · intro h; rw [h]
theorem u8_beq (x y : BitVec 8) : (u8 x == u8 y) = (x == y) := by
  rw [Bool.eq_iff_iff, beq_iff_eq, beq_iff_eq, u8_inj]
theorem u8_bne (x y : BitVec 8) : (u8 x != u8 y) = (x != y) := by
  unfold bne; rw [u8_beq]
theorem u8_and (x y : BitVec 8) : bits .and .u8 (u8 x) (u8 y) = u8 (x &&& y) := by
  unfold u8; rw [u8_and_nat _ _ x.isLt y.isLt, BitVec.toNat_and]
theorem u8_or (x y : BitVec 8) : bits .or .u8 (u8 x) (u8 y) = u8 (x ||| y) := by
  unfold u8; rw [u8_or_nat _ _ x.isLt y.isLt, BitVec.toNat_or]
theorem u8_xor (x y : BitVec 8) : bits .xor .u8 (u8 x) (u8 y) = u8 (x ^^^ y) := by
  unfold u8; rw [u8_xor_nat _ _ x.isLt y.isLt, BitVec.toNat_xor]
theorem u8_andNot (x y : BitVec 8) : bits .andNot .u8 (u8 x) (u8 y) = u8 (x &&& ~~~y) := by
  unfold u8; rw [u8_andNot_nat _ _ x.isLt y.isLt, BitVec.toNat_and, BitVec.toNat_not]
theorem u8_zero : u8 0#8 = 0 := rfl
theorem u8_zor (x : BitVec 8) : bits .or .u8 0 (u8 x) = u8 x := by
  rw [← u8_zero, u8_or, BitVec.zero_or]
theorem u8_ones : u8 255#8 = 255 := rfl
theorem u8_not (x : BitVec 8) : bits .xor .u8 255 (u8 x) = u8 (~~~x) := by
  rw [← u8_ones, u8_xor]
  congr 1
theorem u8_not' (x : BitVec 8) : bits .xor .u8 (if IntKind.u8.signed = true then -1 else IntKind.u8.max) (u8 x) = u8 (~~~x) := u8_not x
theorem u8_shr (x : BitVec 8) (i : Nat) : u8 x / 2 ^ i = u8 (x >>> i) := by
  unfold u8
  rw [BitVec.toNat_ushiftRight, Nat.shiftRight_eq_div_pow]
  simp
theorem u8_one : u8 1#8 = 1 := rfl
/-- The bit at a place. -/
def bitAt (x : BitVec 8) (i : Nat) : Bool := x.getLsbD i
theorem bit_test (i : Nat) (x : BitVec 8) : (bits .and .u8 (u8 x / 2 ^ i) 1 == 1) = bitAt x i := by
  unfold bitAt
  rw [u8_shr, ← u8_one, u8_and, u8_beq, BitVec.and_one_eq_setWidth_ofBool_getLsbD, BitVec.getLsbD_ushiftRight, Nat.add_zero]
  cases x.getLsbD i <;> decide
theorem u8_byte (n : Int) : n % 256 = u8 (BitVec.ofInt 8 n) := by
  unfold u8
  rw [BitVec.toNat_ofInt]
  omega
theorem u8_neg (x : BitVec 8) : -u8 x % 256 = u8 (-x) := by
  unfold u8
  rw [BitVec.toNat_neg]
  have := x.isLt
  omega
theorem u8_shl1 (x : BitVec 8) : u8 x * 2 % 256 = u8 (x <<< 1) := by
  unfold u8
  rw [BitVec.toNat_shiftLeft, Nat.shiftLeft_eq]
  omega
theorem u8_shr1 (x : BitVec 8) : u8 x / 2 = u8 (x >>> 1) := by
  unfold u8
  rw [BitVec.toNat_ushiftRight, Nat.shiftRight_eq_div_pow]
  omega
theorem u8_beq0 (x : BitVec 8) : (u8 x == 0) = (x == 0#8) := by
  rw [← u8_zero, u8_beq]
theorem u8_bne0 (x : BitVec 8) : (u8 x != 0) = (x != 0#8) := by
  rw [← u8_zero, u8_bne]
/-- A byte as a value, a byte and its secret bits, a bit and whether it is secret. -/
abbrev B8 (x : BitVec 8) : Value := .int .u8 (u8 x)
abbrev TB (x t : BitVec 8) : Value := .agg #[.int .u8 (u8 x), .int .u8 (u8 t)]
abbrev TBit (v t : Bool) : Value := .agg #[.bool v, .bool t]

end Go.Proofs.YtcnejgilmciljaaGreatDoor
