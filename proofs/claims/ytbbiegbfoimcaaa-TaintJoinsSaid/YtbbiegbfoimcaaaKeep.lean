/-
  Bytes that are the same but for secrets: what the calls of TaintKeeps come to.
-/
import Derived.Test.YtbbiegbfoimcaaaBack
import Derived.IntWalk
set_option linter.unusedSimpArgs false
set_option linter.unusedVariables false
namespace Go.Proofs.Ytbbiegbfoimcaaa
open Go.RowKit

/-- A byte whose secret bits are turned. -/
def oth (x t p : BitVec 8) : BitVec 8 := x ^^^ (p &&& t)
theorem oth_bit (x t p : BitVec 8) (i : Nat) : (oth x t p).getLsbD i = (x.getLsbD i ^^ (p.getLsbD i && t.getLsbD i)) := by
  unfold oth; rw [BitVec.getLsbD_xor, BitVec.getLsbD_and]
theorem oth_rest (x t p : BitVec 8) : oth x t p &&& ~~~t = x &&& ~~~t := by
  apply BitVec.eq_of_getLsbD_eq
  intro i hi
  simp only [BitVec.getLsbD_and, BitVec.getLsbD_not, oth_bit, hi, decide_true, Bool.true_and]
  cases x.getLsbD i <;> cases t.getLsbD i <;> cases p.getLsbD i <;> rfl
theorem oth_all (x t p : BitVec 8) : oth x t p ||| t = x ||| t := by
  apply BitVec.eq_of_getLsbD_eq
  intro i hi
  simp only [BitVec.getLsbD_or, oth_bit]
  cases x.getLsbD i <;> cases t.getLsbD i <;> cases p.getLsbD i <;> rfl
theorem oth_open (x t p : BitVec 8) (i : Nat) (h : bitAt t i = false) : bitAt (oth x t p) i = bitAt x i := by
  unfold bitAt at *
  rw [oth_bit, h]; simp
theorem setB_bit (x : BitVec 8) (i : Nat) (v : Bool) (j : Nat) (hi : i < 8) (hj : j < 8) : (setB x i v).getLsbD j = if j = i then v else x.getLsbD j := by
  have : ∀ i : Fin 8, ∀ j : Fin 8, ∀ v : Bool, ∀ x : BitVec 8, (setB x i.val v).getLsbD j.val = if j.val = i.val then v else x.getLsbD j.val := by decide +kernel
  exact this ⟨i, hi⟩ ⟨j, hj⟩ v x
/-- x and y are the same but for the secret bits t. -/
def alike (x y t : BitVec 8) : Prop := x &&& ~~~t = y &&& ~~~t
theorem alike_of {x y t : BitVec 8} (h : ∀ i < 8, t.getLsbD i = false → x.getLsbD i = y.getLsbD i) : alike x y t := by
  unfold alike
  apply BitVec.eq_of_getLsbD_eq
  intro i hi
  simp only [BitVec.getLsbD_and, BitVec.getLsbD_not, hi, decide_true, Bool.true_and]
  cases ht : t.getLsbD i
  · rw [h i hi ht]
  · simp
theorem same_yes (x y t : BitVec 8) (h : alike x y t) (w : World) : Calls Try.prog 29 #[TB x t, TB y t] w fun e w' => e = .returned (.bool true) ∧ Below w.heap.size w w' :=
  (same_c x t y t w).mono fun _ _ ⟨h1, h2⟩ => ⟨by rw [h1]; unfold alike at h; simp [h], h2⟩
theorem oth_alike (x t p : BitVec 8) : alike x (oth x t p) t := alike_of fun i hi h => by rw [oth_bit, h]; simp

set_option maxHeartbeats 400000 in
theorem other_c (x t p : BitVec 8) (w : World) : Calls Try.prog 32 #[TB x t, B8 p] w fun e w' => e = .returned (TB (oth x t p) t) ∧ Below w.heap.size w w' := by
  have h1 := u8_and
  have h2 := u8_xor
  go_enter Try.func32, Try.ntmps32
  go_wp2
  refine bodyPost_ret (v := TB _ _) (by simp [results, Try.results32, go_sem, oth]) rfl ⟨rfl, by go_grown⟩

/-- Bytes' gates, and of bytes whose secret bits are turned: the same secrets. -/
theorem and_n (x t y s : BitVec 8) (w : World) : Calls Try.prog 12 #[TB x t, TB y s] w fun e w' => e = .returned (TB (x &&& y) (andT x t y s)) ∧ Below w.heap.size w w' := and_d x t y s w
theorem or_n (x t y s : BitVec 8) (w : World) : Calls Try.prog 13 #[TB x t, TB y s] w fun e w' => e = .returned (TB (x ||| y) (orT x t y s)) ∧ Below w.heap.size w w' := or_d x t y s w
theorem xor_n (x t y s : BitVec 8) (w : World) : Calls Try.prog 14 #[TB x t, TB y s] w fun e w' => e = .returned (TB (x ^^^ y) (xorT x t y s)) ∧ Below w.heap.size w w' := xor_d x t y s w
theorem and_o (x t y s p q : BitVec 8) (w : World) : Calls Try.prog 12 #[TB (oth x t p) t, TB (oth y s q) s] w fun e w' => e = .returned (TB (oth x t p &&& oth y s q) (andT x t y s)) ∧ Below w.heap.size w w' :=
  (and_d _ _ _ _ w).mono fun _ _ ⟨h1, h2⟩ => ⟨by rw [h1]; unfold andT; rw [oth_rest, oth_rest, oth_all, oth_all], h2⟩
theorem or_o (x t y s p q : BitVec 8) (w : World) : Calls Try.prog 13 #[TB (oth x t p) t, TB (oth y s q) s] w fun e w' => e = .returned (TB (oth x t p ||| oth y s q) (orT x t y s)) ∧ Below w.heap.size w w' :=
  (or_d _ _ _ _ w).mono fun _ _ ⟨h1, h2⟩ => ⟨by rw [h1]; unfold orT; rw [oth_rest, oth_rest, oth_all, oth_all], h2⟩
theorem xor_o (x t y s p q : BitVec 8) (w : World) : Calls Try.prog 14 #[TB (oth x t p) t, TB (oth y s q) s] w fun e w' => e = .returned (TB (oth x t p ^^^ oth y s q) (xorT x t y s)) ∧ Below w.heap.size w w' :=
  (xor_d _ _ _ _ w).mono fun _ _ ⟨h1, h2⟩ => ⟨by rw [h1]; unfold xorT; rw [oth_rest, oth_rest, oth_all, oth_all], h2⟩

theorem same_and (x t y s p q : BitVec 8) (w : World) : Calls Try.prog 29 #[TB (x &&& y) (andT x t y s), TB (oth x t p &&& oth y s q) (andT x t y s)] w fun e w' => e = .returned (.bool true) ∧ Below w.heap.size w w' :=
  same_yes _ _ _ (alike_of fun i hi h => by
    unfold andT at h
    simp only [BitVec.getLsbD_or, BitVec.getLsbD_and, BitVec.getLsbD_xor, BitVec.getLsbD_not, oth_bit, hi, decide_true, Bool.true_and] at h ⊢
    revert h
    cases x.getLsbD i <;> cases t.getLsbD i <;> cases p.getLsbD i <;> cases y.getLsbD i <;> cases s.getLsbD i <;> cases q.getLsbD i <;> decide) w
theorem same_or (x t y s p q : BitVec 8) (w : World) : Calls Try.prog 29 #[TB (x ||| y) (orT x t y s), TB (oth x t p ||| oth y s q) (orT x t y s)] w fun e w' => e = .returned (.bool true) ∧ Below w.heap.size w w' :=
  same_yes _ _ _ (alike_of fun i hi h => by
    unfold orT at h
    simp only [BitVec.getLsbD_or, BitVec.getLsbD_and, BitVec.getLsbD_xor, BitVec.getLsbD_not, oth_bit, hi, decide_true, Bool.true_and] at h ⊢
    revert h
    cases x.getLsbD i <;> cases t.getLsbD i <;> cases p.getLsbD i <;> cases y.getLsbD i <;> cases s.getLsbD i <;> cases q.getLsbD i <;> decide) w
theorem same_xor (x t y s p q : BitVec 8) (w : World) : Calls Try.prog 29 #[TB (x ^^^ y) (xorT x t y s), TB (oth x t p ^^^ oth y s q) (xorT x t y s)] w fun e w' => e = .returned (.bool true) ∧ Below w.heap.size w w' :=
  same_yes _ _ _ (alike_of fun i hi h => by
    unfold xorT at h
    simp only [BitVec.getLsbD_or, BitVec.getLsbD_and, BitVec.getLsbD_xor, BitVec.getLsbD_not, oth_bit, hi, decide_true, Bool.true_and] at h ⊢
    revert h
    cases x.getLsbD i <;> cases t.getLsbD i <;> cases p.getLsbD i <;> cases y.getLsbD i <;> cases s.getLsbD i <;> cases q.getLsbD i <;> decide) w
theorem same_oth (x t p : BitVec 8) (w : World) : Calls Try.prog 29 #[TB x t, TB (oth x t p) t] w fun e w' => e = .returned (.bool true) ∧ Below w.heap.size w w' :=
  same_yes _ _ _ (oth_alike x t p) w

theorem same_put (x t p y s q : BitVec 8) (i k : Nat) (hi : i < 8) (w : World) :
    Calls Try.prog 29 #[TB (setB x i (bitAt y k)) (setB t i (bitAt s k)), TB (setB (oth x t p) i (bitAt (oth y s q) k)) (setB t i (bitAt s k))] w fun e w' => e = .returned (.bool true) ∧ Below w.heap.size w w' :=
  same_yes _ _ _ (alike_of fun j hj h => by
    rw [setB_bit _ _ _ _ hi hj] at h
    rw [setB_bit _ _ _ _ hi hj, setB_bit _ _ _ _ hi hj]
    by_cases e : j = i
    · simp only [e, if_true] at h ⊢
      exact (oth_open y s q k h).symm
    · simp only [e, if_false] at h ⊢
      rw [oth_bit, h]; simp) w
theorem same_left (x t p y s q : BitVec 8) (k : Nat) (w : World) :
    Calls Try.prog 29 #[TB (setB (x <<< 1) 0 (bitAt y k)) (setB (t <<< 1) 0 (bitAt s k)), TB (setB (oth x t p <<< 1) 0 (bitAt (oth y s q) k)) (setB (t <<< 1) 0 (bitAt s k))] w fun e w' => e = .returned (.bool true) ∧ Below w.heap.size w w' := by
  have e : oth x t p <<< 1 = oth (x <<< 1) (t <<< 1) (p <<< 1) := by
    have : ∀ i < 8, (oth x t p <<< 1).getLsbD i = (oth (x <<< 1) (t <<< 1) (p <<< 1)).getLsbD i := fun i hi => by
      simp only [oth_bit, BitVec.getLsbD_shiftLeft]
      cases decide (i < 8) <;> cases decide (i < 1) <;> simp
    exact BitVec.eq_of_getLsbD_eq (fun i hi => this i hi)
  rw [e]
  exact same_put (x <<< 1) (t <<< 1) (p <<< 1) y s q 0 k (by omega) w
theorem same_right (x t p y s q : BitVec 8) (k : Nat) (w : World) :
    Calls Try.prog 29 #[TB (setB (x >>> 1) 7 (bitAt y k)) (setB (t >>> 1) 7 (bitAt s k)), TB (setB (oth x t p >>> 1) 7 (bitAt (oth y s q) k)) (setB (t >>> 1) 7 (bitAt s k))] w fun e w' => e = .returned (.bool true) ∧ Below w.heap.size w w' := by
  have e : oth x t p >>> 1 = oth (x >>> 1) (t >>> 1) (p >>> 1) := by
    exact BitVec.eq_of_getLsbD_eq (fun i hi => by simp only [oth_bit, BitVec.getLsbD_ushiftRight])
  rw [e]
  exact same_put (x >>> 1) (t >>> 1) (p >>> 1) y s q 7 k (by omega) w

/-- What Zero tells is secret. -/
def zT (x t : BitVec 8) : Bool := (x &&& ~~~t == 0#8) && (x ||| t != 0#8)
theorem zero_n (x t : BitVec 8) (w : World) : Calls Try.prog 24 #[TB x t] w fun e w' => e = .returned (TBit (x == 0#8) (zT x t)) ∧ Below w.heap.size w w' := zero_c x t w
theorem zero_o (x t p : BitVec 8) (w : World) : Calls Try.prog 24 #[TB (oth x t p) t] w fun e w' => e = .returned (TBit (oth x t p == 0#8) (zT x t)) ∧ Below w.heap.size w w' :=
  (zero_c _ _ w).mono fun _ _ ⟨h1, h2⟩ => ⟨by rw [h1]; unfold zT; rw [oth_rest, oth_all], h2⟩
theorem zT_open (x t p : BitVec 8) (h : zT x t = false) : (oth x t p == 0#8) = (x == 0#8) := by
  unfold zT at h
  rw [Bool.eq_iff_iff, beq_iff_eq, beq_iff_eq]
  by_cases h1 : x &&& ~~~t = 0#8
  · have h2 : x ||| t = 0#8 := by simpa [h1] using h
    have hx : x = 0#8 := by
      apply BitVec.eq_of_getLsbD_eq
      intro i hi
      have := congrArg (fun z : BitVec 8 => z.getLsbD i) h2
      simp only [BitVec.getLsbD_or, BitVec.getLsbD_zero] at this ⊢
      revert this; cases x.getLsbD i <;> simp
    have ht : t = 0#8 := by
      apply BitVec.eq_of_getLsbD_eq
      intro i hi
      have := congrArg (fun z : BitVec 8 => z.getLsbD i) h2
      simp only [BitVec.getLsbD_or, BitVec.getLsbD_zero] at this ⊢
      revert this; cases t.getLsbD i <;> simp
    subst hx; subst ht; simp [oth]
  · constructor
    · intro h2; exact absurd (by rw [← oth_rest x t p, h2, BitVec.zero_and]) h1
    · intro h2; exact absurd (by rw [h2, BitVec.zero_and]) h1

/-- A place out of a byte. -/
def k8 (z : BitVec 8) : Nat := z.toNat % 8
theorem k8_lt (z : BitVec 8) : k8 z < 8 := by unfold k8; omega
theorem u8_rem (z : BitVec 8) : u8 z % 8 = (k8 z : Int) := by unfold u8 k8; omega
theorem u8_tmod (z : BitVec 8) : (u8 z).tmod 8 = (k8 z : Int) := by rw [Int.tmod_eq_emod_of_nonneg (u8_lo z), u8_rem]
theorem wrap_k8 (z : BitVec 8) : IntKind.i64.wrap (k8 z : Int) = (k8 z : Int) := by
  have := k8_lt z
  exact IntWalk.i64_in _ (by omega)
end Go.Proofs.Ytbbiegbfoimcaaa
