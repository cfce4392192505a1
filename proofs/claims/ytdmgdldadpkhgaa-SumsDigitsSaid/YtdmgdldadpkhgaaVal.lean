/-
  Sums as plain values: the byte and four bits, binary and decimal, and what of them is secret.
-/
import Derived.Test.YtdmgdldadpkhgaaTs
set_option linter.unusedSimpArgs false
set_option linter.unusedVariables false
namespace Go.Proofs.Ytdmgdldadpkhgaa
open Go.RowKit

/-- What a sum is; what of it is secret; the sum as the program's value. -/
structure SV where
  (a : BitVec 8) (n v z c : Bool)
deriving DecidableEq
structure ST where
  (t : BitVec 8) (n v z c : Bool)
deriving DecidableEq
abbrev VS (s : SV) (t : ST) : Value := .agg #[B8 s.a, B8 t.t, .bool s.n, .bool t.n, .bool s.v, .bool t.v, .bool s.z, .bool t.z, .bool s.c, .bool t.c]
def T0 : ST := ⟨0#8, false, false, false, false⟩
def TA : ST := ⟨255#8, true, true, true, true⟩
def cnt (c : Bool) : Int := if c then 1 else 0
theorem cnt_lo (c : Bool) : 0 ≤ cnt c := by cases c <;> decide
theorem cnt_hi (c : Bool) : cnt c ≤ 1 := by cases c <;> decide
/-- A number as one below 0; whether it is none such. -/
def sgn (n : Int) : Int := if 128 ≤ n then n - 256 else n
def bey (n : Int) : Bool := decide (n < -128) || decide (127 < n)
/-- The bit that tells below 0. -/
def nb (h : Int) : Bool := h / 128 % 2 == 1
def hi (x : BitVec 8) : Int := u8 x / 16 * 16
def lo (x : BitVec 8) : Int := u8 x % 16
/-- The binary sum. -/
def sumB (x y : BitVec 8) (c : Bool) : Int := u8 x + u8 y + cnt c
def addV (x y : BitVec 8) (c : Bool) : SV where
  a := BitVec.ofInt 8 (sumB x y c)
  n := nb (sumB x y c)
  v := bey (sgn (u8 x) + sgn (u8 y) + cnt c)
  z := BitVec.ofInt 8 (sumB x y c) == 0#8
  c := decide (256 ≤ sumB x y c)
/-- The decimal sum: the low digits, then both. -/
def dL0 (x y : BitVec 8) (c : Bool) : Int := lo x + lo y + cnt c
def dL (x y : BitVec 8) (c : Bool) : Int := if dL0 x y c < 10 then dL0 x y c else 16 + (dL0 x y c + 6) % 16
def dH0 (x y : BitVec 8) (c : Bool) : Int := hi x + hi y + dL x y c
def dH (x y : BitVec 8) (c : Bool) : Int := if dH0 x y c < 160 then dH0 x y c else dH0 x y c + 96
def addD (x y : BitVec 8) (c : Bool) : SV where
  a := BitVec.ofInt 8 (dH x y c)
  n := nb (dH0 x y c)
  v := bey (sgn (hi x) + sgn (hi y) + dL x y c)
  z := BitVec.ofInt 8 (sumB x y c) == 0#8
  c := decide (256 ≤ dH x y c)
/-- The decimal difference. -/
def eL0 (x y : BitVec 8) (c : Bool) : Int := lo x - lo y - (1 - cnt c)
def eL (x y : BitVec 8) (c : Bool) : Int := if eL0 x y c < 0 then (eL0 x y c - 6) % 16 - 16 else eL0 x y c
def eH0 (x y : BitVec 8) (c : Bool) : Int := hi x - hi y + eL x y c
def eH (x y : BitVec 8) (c : Bool) : Int := if eH0 x y c < 0 then eH0 x y c - 96 else eH0 x y c
def subD (x y : BitVec 8) (c : Bool) : SV := { addV x (~~~y) c with a := BitVec.ofInt 8 (eH x y c) }
/-- What of the two is secret, and what then of the sum. -/
def secT (t s : BitVec 8) (ct : Bool) : BitVec 8 := if ct then t ||| s ||| 1#8 else t ||| s
def hidT (s : BitVec 8) (a : BitVec 8) (dv dt : Bool) : ST :=
  if s == 0#8 && !dt then T0 else if dv || dt then TA else ⟨spr s, bitAt (spr s) 7, true, zT a (spr s), true⟩
def addR (x y : BitVec 8) (c d : Bool) : SV := if d then addD x y c else addV x y c
def subR (x y : BitVec 8) (c d : Bool) : SV := if d then subD x y c else addV x (~~~y) c
abbrev addS (x t y s : BitVec 8) (c ct d dt : Bool) : Value := VS (addR x y c d) (hidT (secT t s ct) (addR x y c d).a d dt)
abbrev subS (x t y s : BitVec 8) (c ct d dt : Bool) : Value := VS (subR x y c d) (hidT (secT t s ct) (subR x y c d).a d dt)

theorem lo_lo (x : BitVec 8) : 0 ≤ lo x := by unfold lo; omega
theorem lo_hi (x : BitVec 8) : lo x < 16 := by unfold lo; omega
theorem hi_lo (x : BitVec 8) : 0 ≤ hi x := by have := u8_lo x; unfold hi; omega
theorem hi_hi (x : BitVec 8) : hi x ≤ 240 := by have := u8_hi x; unfold hi; omega
theorem sumB_lo (x y : BitVec 8) (c : Bool) : 0 ≤ sumB x y c := by have := u8_lo x; have := u8_lo y; have := cnt_lo c; unfold sumB; omega
theorem sumB_hi (x y : BitVec 8) (c : Bool) : sumB x y c < 512 := by have := u8_hi x; have := u8_hi y; have := cnt_hi c; unfold sumB; omega
theorem dL0_lo (x y : BitVec 8) (c : Bool) : 0 ≤ dL0 x y c := by have := lo_lo x; have := lo_lo y; have := cnt_lo c; unfold dL0; omega
theorem dL0_hi (x y : BitVec 8) (c : Bool) : dL0 x y c < 32 := by have := lo_hi x; have := lo_hi y; have := cnt_hi c; unfold dL0; omega
theorem dL_lo (x y : BitVec 8) (c : Bool) : 0 ≤ dL x y c := by have := dL0_lo x y c; unfold dL; split <;> omega
theorem dL_hi (x y : BitVec 8) (c : Bool) : dL x y c < 32 := by have := dL0_hi x y c; unfold dL; split <;> omega
theorem dH0_lo (x y : BitVec 8) (c : Bool) : 0 ≤ dH0 x y c := by have := hi_lo x; have := hi_lo y; have := dL_lo x y c; unfold dH0; omega
theorem dH0_hi (x y : BitVec 8) (c : Bool) : dH0 x y c < 512 := by have := hi_hi x; have := hi_hi y; have := dL_hi x y c; unfold dH0; omega
theorem dH_lo (x y : BitVec 8) (c : Bool) : 0 ≤ dH x y c := by have := dH0_lo x y c; unfold dH; split <;> omega
theorem dH_hi (x y : BitVec 8) (c : Bool) : dH x y c < 608 := by have := dH0_hi x y c; unfold dH; split <;> omega
theorem eL0_lo (x y : BitVec 8) (c : Bool) : -16 ≤ eL0 x y c := by have := lo_lo x; have := lo_hi y; have := cnt_lo c; unfold eL0; omega
theorem eL0_hi (x y : BitVec 8) (c : Bool) : eL0 x y c < 16 := by have := lo_hi x; have := lo_lo y; have := cnt_hi c; unfold eL0; omega
theorem eL_lo (x y : BitVec 8) (c : Bool) : -16 ≤ eL x y c := by have := eL0_lo x y c; unfold eL; split <;> omega
theorem eL_hi (x y : BitVec 8) (c : Bool) : eL x y c < 16 := by have := eL0_hi x y c; unfold eL; split <;> omega
theorem eH0_lo (x y : BitVec 8) (c : Bool) : -256 ≤ eH0 x y c := by have := hi_lo x; have := hi_hi y; have := eL_lo x y c; unfold eH0; omega
theorem eH0_hi (x y : BitVec 8) (c : Bool) : eH0 x y c < 256 := by have := hi_hi x; have := hi_lo y; have := eL_hi x y c; unfold eH0; omega
theorem sgn_lo (n : Int) (h : 0 ≤ n) : -128 ≤ sgn n := by unfold sgn; split <;> omega
theorem sgn_hi (n : Int) (h : n < 256) : sgn n < 128 := by unfold sgn; split <;> omega

/-- The model's '&' of an integer, where the document reckons. -/
theorem and15 (n : Int) (h : -64 ≤ n) (h' : n < 512) : bits .and .i64 n 15 = n % 16 := by
  have : ∀ k : Fin 576, bits .and .i64 ((k.val : Int) - 64) 15 = ((k.val : Int) - 64) % 16 := by decide +kernel
  have := this ⟨(n + 64).toNat, by omega⟩
  simp only [show ((n + 64).toNat : Int) - 64 = n by omega] at this
  exact this
theorem and128 (n : Int) (h : 0 ≤ n) (h' : n < 768) : bits .and .i64 n 128 = n / 128 % 2 * 128 := by
  have : ∀ k : Fin 768, bits .and .i64 (k.val : Int) 128 = (k.val : Int) / 128 % 2 * 128 := by decide +kernel
  have := this ⟨n.toNat, by omega⟩
  simp only [show (n.toNat : Int) = n by omega] at this
  exact this
theorem neg128 (n : Int) : (n / 128 % 2 * 128 != 0) = nb n := by
  unfold nb
  rw [Bool.eq_iff_iff, bne_iff_ne, beq_iff_eq]; omega
theorem dec_eq {p q : Prop} [Decidable p] [Decidable q] (h : p ↔ q) : decide p = decide q := by simp only [h]
end Go.Proofs.Ytdmgdldadpkhgaa
