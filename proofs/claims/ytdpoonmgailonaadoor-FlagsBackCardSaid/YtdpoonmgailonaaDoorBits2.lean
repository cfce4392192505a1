/-
  A bit of a register in which bits were put.
-/
import Derived.Test.YtdpoonmgailonaaDoorRegs
set_option linter.unusedSimpArgs false
set_option linter.unusedVariables false
namespace Go.Proofs.YtdpoonmgailonaaDoor
open Go.RowKit

theorem getI_setI (x : BitVec 8) (i j : Nat) (b : Bool) (hi : i < 8) (hj : j < 8) : getI (setI x i b) j = if j = i then b else getI x j := by
  rw [setI_nat x i b hi, getI_nat _ j hj, getI_nat _ j hj]
  exact setB_bit x i b j hi hj
theorem get7 (v : BitVec 8) : getI v 7 = decide (128 ≤ u8 v) := by
  have : ∀ v : BitVec 8, getI v 7 = decide (128 ≤ u8 v) := by decide +kernel
  exact this v
theorem get_zero (i : Int) : getI 0#8 i = false := by
  unfold getI bitAt; simp
theorem told_1 (x y : BitVec 8) : getI (toldV x y) 1 = (y == 0#8) := by
  unfold toldV
  exact (getI_setI _ 1 1 _ (by omega) (by omega)).trans (by simp)
theorem told_7 (x y : BitVec 8) : getI (toldV x y) 7 = decide (128 ≤ u8 y) := by
  unfold toldV
  refine (getI_setI _ 1 7 _ (by omega) (by omega)).trans ?_
  rw [if_neg (by omega)]
  refine (getI_setI _ 7 7 _ (by omega) (by omega)).trans ?_
  rw [if_pos rfl, get7]
theorem told_k (x y : BitVec 8) (k : Nat) (hk : k < 8) (h1 : k ≠ 1) (h7 : k ≠ 7) : getI (toldV x y) k = getI x k := by
  unfold toldV
  refine (getI_setI _ 1 k _ (by omega) hk).trans ?_
  rw [if_neg h1]
  refine (getI_setI _ 7 k _ (by omega) hk).trans ?_
  rw [if_neg h7]
theorem zT_clear (y : BitVec 8) : zT y 0#8 = false := by
  have : ∀ y : BitVec 8, zT y 0#8 = false := by decide +kernel
  exact this y
theorem toldT_1 (t y : BitVec 8) : getI (toldT t y 0#8) 1 = false := by
  unfold toldT
  exact (getI_setI _ 1 1 _ (by omega) (by omega)).trans (by simp [zT_clear])
theorem toldT_7 (t y : BitVec 8) : getI (toldT t y 0#8) 7 = false := by
  unfold toldT
  refine (getI_setI _ 1 7 _ (by omega) (by omega)).trans ?_
  rw [if_neg (by omega)]
  refine (getI_setI _ 7 7 _ (by omega) (by omega)).trans ?_
  rw [if_pos rfl]; exact get_zero 7
theorem toldT_k (t y s : BitVec 8) (k : Nat) (hk : k < 8) (h1 : k ≠ 1) (h7 : k ≠ 7) : getI (toldT t y s) k = getI t k := by
  unfold toldT
  refine (getI_setI _ 1 k _ (by omega) hk).trans ?_
  rw [if_neg h1]
  refine (getI_setI _ 7 k _ (by omega) hk).trans ?_
  rw [if_neg h7]
theorem ofB_c (n : Int) (x : BitVec 8) (h : n = u8 x) (w : World) : Calls Tryd.prog 23 #[.int .i64 n] w fun e w' => e = .returned (TB x 0#8) ∧ Below w.heap.size w w' := by
  subst h
  refine (of_c _ w).mono fun e w' ⟨h1, h2⟩ => ⟨?_, h2⟩
  have : ∀ x : BitVec 8, BitVec.ofInt 8 (u8 x) = x := by decide +kernel
  rw [h1, this]
end Go.Proofs.YtdpoonmgailonaaDoor
