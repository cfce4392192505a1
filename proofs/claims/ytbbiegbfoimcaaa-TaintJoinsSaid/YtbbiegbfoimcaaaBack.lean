/-
  TaintBack returns true: the walk.
-/
import Derived.Test.YtbbiegbfoimcaaaGates
import Derived.Test.YtbbiegbfoimcaaaAwake
import Derived.Test.YtbbiegbfoimcaaaHeld
import Derived.Outline
set_option linter.unusedSimpArgs false
set_option linter.unusedVariables false
namespace Go.Proofs.Ytbbiegbfoimcaaa
open Go.RowKit

/-- The lowest k bits of x. -/
def loB (x : BitVec 8) (k : Nat) : BitVec 8 := BitVec.ofNat 8 (x.toNat % 2 ^ k)
theorem loB_zero (x : BitVec 8) : loB x 0 = 0#8 := by unfold loB; simp [Nat.mod_one]
theorem loB_all (x : BitVec 8) : loB x 8 = x := by
  unfold loB
  apply BitVec.eq_of_toNat_eq
  rw [BitVec.toNat_ofNat]
  have := x.isLt
  omega
theorem loB_succ (x : BitVec 8) (k : Nat) (h : k < 8) : setB (loB x k) k (bitAt x k) = loB x (k + 1) := by
  have : ∀ k : Fin 8, ∀ x : BitVec 8, setB (loB x k.val) k.val (bitAt x k.val) = loB x (k.val + 1) := by decide +kernel
  exact this ⟨k, h⟩ x
theorem left_right (x : BitVec 8) (v : Bool) : setB ((setB (x <<< 1) 0 v) >>> 1) 7 (bitAt x 7) = x ∧ bitAt (setB (x <<< 1) 0 v) 0 = v := by
  have : ∀ v : Bool, ∀ x : BitVec 8, setB ((setB (x <<< 1) 0 v) >>> 1) 7 (bitAt x 7) = x ∧ bitAt (setB (x <<< 1) 0 v) 0 = v := by decide +kernel
  exact this v x

theorem xor0_c (x t : BitVec 8) (w : World) : Calls Try.prog 14 #[TB x t, TB 0#8 0#8] w fun e w' => e = .returned (TB x t) ∧ Below w.heap.size w w' :=
  (xor_d x t 0#8 0#8 w).mono fun _ _ ⟨h1, h2⟩ => ⟨by
    rw [h1]
    have : ∀ x t : BitVec 8, ((x &&& ~~~t) ^^^ (x ||| t)) ||| ((0#8 &&& ~~~0#8) ^^^ (0#8 ||| 0#8)) = t := by
      intro x t
      apply BitVec.eq_of_getLsbD_eq
      intro i hi
      simp only [BitVec.getLsbD_or, BitVec.getLsbD_and, BitVec.getLsbD_xor, BitVec.getLsbD_not, BitVec.getLsbD_zero, hi, decide_true, Bool.true_and]
      cases x.getLsbD i <;> cases t.getLsbD i <;> rfl
    rw [this, BitVec.xor_zero], h2⟩
theorem or0_c (x t : BitVec 8) (w : World) : Calls Try.prog 13 #[TB x t, TB 0#8 0#8] w fun e w' => e = .returned (TB x t) ∧ Below w.heap.size w w' :=
  (or_d x t 0#8 0#8 w).mono fun _ _ ⟨h1, h2⟩ => ⟨by
    rw [h1]
    have : ∀ x t : BitVec 8, ((x &&& ~~~t) ||| (0#8 &&& ~~~0#8)) ^^^ ((x ||| t) ||| (0#8 ||| 0#8)) = t := by
      intro x t
      apply BitVec.eq_of_getLsbD_eq
      intro i hi
      simp only [BitVec.getLsbD_or, BitVec.getLsbD_and, BitVec.getLsbD_xor, BitVec.getLsbD_not, BitVec.getLsbD_zero, hi, decide_true, Bool.true_and]
      cases x.getLsbD i <;> cases t.getLsbD i <;> rfl
    rw [this, BitVec.or_zero], h2⟩
theorem and0_c (x t : BitVec 8) (w : World) : Calls Try.prog 12 #[TB x t, TB 0#8 0#8] w fun e w' => e = .returned (TB 0#8 0#8) ∧ Below w.heap.size w w' :=
  (and_d x t 0#8 0#8 w).mono fun _ _ ⟨h1, h2⟩ => ⟨by
    rw [h1]
    have : ∀ x t : BitVec 8, ((x &&& ~~~t) &&& (0#8 &&& ~~~0#8)) ^^^ ((x ||| t) &&& (0#8 ||| 0#8)) = 0#8 := by
      intro x t
      apply BitVec.eq_of_getLsbD_eq
      intro i hi
      simp only [BitVec.getLsbD_or, BitVec.getLsbD_and, BitVec.getLsbD_xor, BitVec.getLsbD_not, BitVec.getLsbD_zero, hi, decide_true, Bool.true_and]
      cases x.getLsbD i <;> cases t.getLsbD i <;> rfl
    rw [this, BitVec.and_zero], h2⟩
theorem and255_c (x t : BitVec 8) (w : World) : Calls Try.prog 12 #[TB x t, TB 255#8 0#8] w fun e w' => e = .returned (TB x t) ∧ Below w.heap.size w w' :=
  (and_d x t 255#8 0#8 w).mono fun _ _ ⟨h1, h2⟩ => ⟨by
    rw [h1]
    have : ∀ x t : BitVec 8, ((x &&& ~~~t) &&& (255#8 &&& ~~~0#8)) ^^^ ((x ||| t) &&& (255#8 ||| 0#8)) = t := by
      intro x t
      apply BitVec.eq_of_getLsbD_eq
      intro i hi
      have h255 := (by decide : ∀ i < 8, (255#8).getLsbD i = true) i hi
      simp only [BitVec.getLsbD_or, BitVec.getLsbD_and, BitVec.getLsbD_xor, BitVec.getLsbD_not, BitVec.getLsbD_zero, hi, h255, decide_true, Bool.true_and]
      cases x.getLsbD i <;> cases t.getLsbD i <;> rfl
    have h3 : x &&& 255#8 = x := by
      apply BitVec.eq_of_getLsbD_eq
      intro i hi
      have h255 := (by decide : ∀ i < 8, (255#8).getLsbD i = true) i hi
      simp [h255]
    rw [this, h3], h2⟩
theorem of0_z (w : World) : Calls Try.prog 31 #[.int .i64 0] w fun e w' => e = .returned (TB 0#8 0#8) ∧ Below w.heap.size w w' :=
  (of_c 0 w).mono fun _ _ ⟨h1, h2⟩ => ⟨h1.trans rfl, h2⟩
theorem of255_z (w : World) : Calls Try.prog 31 #[.int .i64 255] w fun e w' => e = .returned (TB 255#8 0#8) ∧ Below w.heap.size w w' :=
  (of_c 255 w).mono fun _ _ ⟨h1, h2⟩ => ⟨h1.trans rfl, h2⟩
theorem put8_c (x t : BitVec 8) (v s : Bool) (w : World) : Calls Try.prog 22 #[TB x t, .int .i64 8, TBit v s] w fun e w' => e = .returned (TB x t) ∧ Below w.heap.size w w' :=
  put_out x t 8 v s (by omega) w
theorem putm_c (x t : BitVec 8) (v s : Bool) (w : World) : Calls Try.prog 22 #[TB x t, .int .i64 (-1), TBit v s] w fun e w' => e = .returned (TB x t) ∧ Below w.heap.size w w' :=
  put_out x t (-1) v s (by omega) w
end Go.Proofs.Ytbbiegbfoimcaaa
