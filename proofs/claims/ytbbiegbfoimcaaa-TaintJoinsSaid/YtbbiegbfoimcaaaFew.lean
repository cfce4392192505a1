/-
  Bytes of which fewer bits are secret: what the calls of TaintFewer come to.
-/
import Derived.Test.YtbbiegbfoimcaaaKeep
set_option linter.unusedSimpArgs false
set_option linter.unusedVariables false
namespace Go.Proofs.Ytbbiegbfoimcaaa
open Go.RowKit

/-- All bits of t are s's. -/
def under (t s : BitVec 8) : Prop := t &&& ~~~s = 0#8
theorem under_of {t s : BitVec 8} (h : ∀ i < 8, t.getLsbD i = true → s.getLsbD i = true) : under t s := by
  unfold under
  apply BitVec.eq_of_getLsbD_eq
  intro i hi
  simp only [BitVec.getLsbD_and, BitVec.getLsbD_not, BitVec.getLsbD_zero, hi, decide_true, Bool.true_and]
  cases ht : t.getLsbD i
  · rfl
  · rw [h i hi ht]; rfl

set_option maxHeartbeats 400000 in
theorem fewer_c (x t p : BitVec 8) (w : World) : Calls Try.prog 33 #[TB x t, B8 p] w fun e w' => e = .returned (TB x (t &&& p)) ∧ Below w.heap.size w w' := by
  have h1 := u8_and
  go_enter Try.func33, Try.ntmps33
  go_wp2
  refine bodyPost_ret (v := TB _ _) (by simp [results, Try.results33, go_sem]) rfl ⟨rfl, by go_grown⟩

set_option maxHeartbeats 400000 in
theorem within_c (x t s : BitVec 8) (h : under t s) (w : World) : Calls Try.prog 34 #[TB x t, TB x s] w fun e w' => e = .returned (.bool true) ∧ Below w.heap.size w w' := by
  have h1 : bits .andNot .u8 (u8 t) (u8 s) = 0 := by rw [u8_andNot, show t &&& ~~~s = 0#8 from h, u8_zero]
  clear h
  go_enter Try.func34, Try.ntmps34
  go_wp2
  go_ret
  exact ⟨by simp, by go_grown⟩

theorem within_and (x t y s p q : BitVec 8) (w : World) : Calls Try.prog 34 #[TB (x &&& y) (andT x (t &&& p) y (s &&& q)), TB (x &&& y) (andT x t y s)] w fun e w' => e = .returned (.bool true) ∧ Below w.heap.size w w' :=
  within_c _ _ _ (under_of fun i hi => by
    unfold andT
    simp only [BitVec.getLsbD_or, BitVec.getLsbD_and, BitVec.getLsbD_xor, BitVec.getLsbD_not, hi, decide_true, Bool.true_and]
    cases x.getLsbD i <;> cases t.getLsbD i <;> cases p.getLsbD i <;> cases y.getLsbD i <;> cases s.getLsbD i <;> cases q.getLsbD i <;> decide) w
theorem within_or (x t y s p q : BitVec 8) (w : World) : Calls Try.prog 34 #[TB (x ||| y) (orT x (t &&& p) y (s &&& q)), TB (x ||| y) (orT x t y s)] w fun e w' => e = .returned (.bool true) ∧ Below w.heap.size w w' :=
  within_c _ _ _ (under_of fun i hi => by
    unfold orT
    simp only [BitVec.getLsbD_or, BitVec.getLsbD_and, BitVec.getLsbD_xor, BitVec.getLsbD_not, hi, decide_true, Bool.true_and]
    cases x.getLsbD i <;> cases t.getLsbD i <;> cases p.getLsbD i <;> cases y.getLsbD i <;> cases s.getLsbD i <;> cases q.getLsbD i <;> decide) w
theorem within_xor (x t y s p q : BitVec 8) (w : World) : Calls Try.prog 34 #[TB (x ^^^ y) (xorT x (t &&& p) y (s &&& q)), TB (x ^^^ y) (xorT x t y s)] w fun e w' => e = .returned (.bool true) ∧ Below w.heap.size w w' :=
  within_c _ _ _ (under_of fun i hi => by
    unfold xorT
    simp only [BitVec.getLsbD_or, BitVec.getLsbD_and, BitVec.getLsbD_xor, BitVec.getLsbD_not, hi, decide_true, Bool.true_and]
    cases x.getLsbD i <;> cases t.getLsbD i <;> cases p.getLsbD i <;> cases y.getLsbD i <;> cases s.getLsbD i <;> cases q.getLsbD i <;> decide) w

theorem bit_fewer (t p : BitVec 8) (k : Nat) (h : bitAt (t &&& p) k = true) : bitAt t k = true := by
  unfold bitAt at *
  rw [BitVec.getLsbD_and] at h
  revert h; cases t.getLsbD k <;> simp
theorem under_put (v t p : BitVec 8) (s q : BitVec 8) (i k : Nat) (hi : i < 8) : under (setB (s &&& q) i (bitAt (t &&& p) k)) (setB s i (bitAt t k)) :=
  under_of fun j hj => by
    rw [setB_bit _ _ _ _ hi hj, setB_bit _ _ _ _ hi hj]
    by_cases e : j = i
    · simp only [e, if_true]; exact bit_fewer t p k
    · simp only [e, if_false]; rw [BitVec.getLsbD_and]; cases s.getLsbD j <;> simp
theorem within_left (y s q x t p : BitVec 8) (k : Nat) (w : World) :
    Calls Try.prog 34 #[TB (setB (y <<< 1) 0 (bitAt x k)) (setB ((s &&& q) <<< 1) 0 (bitAt (t &&& p) k)), TB (setB (y <<< 1) 0 (bitAt x k)) (setB (s <<< 1) 0 (bitAt t k))] w
      fun e w' => e = .returned (.bool true) ∧ Below w.heap.size w w' := by
  have e : (s &&& q) <<< 1 = (s <<< 1) &&& (q <<< 1) := by
    exact BitVec.eq_of_getLsbD_eq (fun i hi => by
      simp only [BitVec.getLsbD_and, BitVec.getLsbD_shiftLeft]
      cases decide (i < 8) <;> cases decide (i < 1) <;> simp)
  rw [e]
  exact within_c _ _ _ (under_put x t p (s <<< 1) (q <<< 1) 0 k (by omega)) w
theorem within_right (y s q x t p : BitVec 8) (k : Nat) (w : World) :
    Calls Try.prog 34 #[TB (setB (y >>> 1) 7 (bitAt x k)) (setB ((s &&& q) >>> 1) 7 (bitAt (t &&& p) k)), TB (setB (y >>> 1) 7 (bitAt x k)) (setB (s >>> 1) 7 (bitAt t k))] w
      fun e w' => e = .returned (.bool true) ∧ Below w.heap.size w w' := by
  have e : (s &&& q) >>> 1 = (s >>> 1) &&& (q >>> 1) := by
    exact BitVec.eq_of_getLsbD_eq (fun i hi => by simp only [BitVec.getLsbD_and, BitVec.getLsbD_ushiftRight])
  rw [e]
  exact within_c _ _ _ (under_put x t p (s >>> 1) (q >>> 1) 7 k (by omega)) w

theorem zT_fewer (x t p : BitVec 8) (h : zT x (t &&& p) = true) : zT x t = true := by
  unfold zT at *
  simp only [Bool.and_eq_true, beq_iff_eq, bne_iff_ne, ne_eq] at h ⊢
  obtain ⟨h1, h2⟩ := h
  have b1 : ∀ i < 8, x.getLsbD i = true → t.getLsbD i = true := fun i hi hx => by
    have := congrArg (fun z : BitVec 8 => z.getLsbD i) h1
    simp only [BitVec.getLsbD_and, BitVec.getLsbD_not, BitVec.getLsbD_zero, hi, hx, decide_true, Bool.true_and] at this
    revert this; cases t.getLsbD i <;> simp
  refine ⟨under_of b1, fun h3 => h2 ?_⟩
  apply BitVec.eq_of_getLsbD_eq
  intro i hi
  have := congrArg (fun z : BitVec 8 => z.getLsbD i) h3
  simp only [BitVec.getLsbD_or, BitVec.getLsbD_and, BitVec.getLsbD_zero] at this ⊢
  revert this; cases x.getLsbD i <;> cases t.getLsbD i <;> simp

/-- All bits from the lowest one on. -/
def spr (x : BitVec 8) : BitVec 8 := x ||| -x
theorem spread_n (x : BitVec 8) (w : World) : Calls Try.prog 26 #[B8 x] w fun e w' => e = .returned (B8 (spr x)) ∧ Below w.heap.size w w' :=
  (spread_c x w).mono fun _ _ ⟨h1, h2⟩ => ⟨h1, by subst h2; exact Below.refl _ _⟩
theorem spr_fewer (t p : BitVec 8) : bits .andNot .u8 (u8 (spr (t &&& p))) (u8 (spr t)) = 0 := by
  have : ∀ t p : BitVec 8, spr (t &&& p) &&& ~~~ spr t = 0#8 := by decide +kernel
  rw [u8_andNot, this, u8_zero]
end Go.Proofs.Ytbbiegbfoimcaaa
