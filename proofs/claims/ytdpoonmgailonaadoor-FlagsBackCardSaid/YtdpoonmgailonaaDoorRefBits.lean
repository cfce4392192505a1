/-
  Powers of two, and sums of them: the bits of a byte as the document's answer reckons them.
-/
import Derived.Test.YtdpoonmgailonaaDoorTs
set_option linter.unusedSimpArgs false
set_option linter.unusedVariables false
namespace Go.Proofs.YtdpoonmgailonaaDoor

/-- 2 multiplied so many times. -/
def pw : Nat → Int
  | 0 => 1
  | k + 1 => 2 * pw k
theorem pw_lo : ∀ k, 1 ≤ pw k
  | 0 => by decide
  | k + 1 => by have := pw_lo k; show 1 ≤ 2 * pw k; omega
theorem pw_hi (k : Nat) (h : k ≤ 8) : pw k ≤ 256 := by
  have : ∀ k : Fin 9, pw k.val ≤ 256 := by decide
  exact this ⟨k, by omega⟩
theorem pw_pow : ∀ k, pw k = 2 ^ k
  | 0 => rfl
  | k + 1 => by show 2 * pw k = 2 ^ (k + 1); rw [pw_pow k, Int.pow_succ]; omega
theorem has_bit (x : BitVec 8) (i : Nat) (h : i < 8) : (u8 x / pw i % 2 == 1) = bitAt x i := by
  rw [pw_pow]
  have : ∀ i : Fin 8, ∀ x : BitVec 8, (u8 x / 2 ^ i.val % 2 == 1) = bitAt x i.val := by decide +kernel
  exact this ⟨i, h⟩ x

/-- The sum of the powers at which f is. -/
def sumP (f : Nat → Bool) : Nat → Int
  | 0 => 0
  | k + 1 => sumP f k + if f k then pw k else 0
theorem sumP_lo (f : Nat → Bool) : ∀ k, 0 ≤ sumP f k
  | 0 => Int.le_refl _
  | k + 1 => by
    have := sumP_lo f k
    have := pw_lo k
    show 0 ≤ sumP f k + if f k then pw k else 0
    split <;> omega
theorem sumP_lt (f : Nat → Bool) : ∀ k, sumP f k < pw k
  | 0 => by show (0 : Int) < 1; decide
  | k + 1 => by
    have := sumP_lt f k
    have := pw_lo k
    show (sumP f k + if f k then pw k else 0) < 2 * pw k
    split <;> omega
theorem sumP_hi (f : Nat → Bool) (k : Nat) (h : k ≤ 8) : sumP f k < 256 := by
  have := sumP_lt f k
  have := pw_hi k h
  omega
/-- The byte of eight bits. -/
def mk8 (f : Nat → Bool) : BitVec 8 := BitVec.ofInt 8 (sumP f 8)
theorem mk8_sum (f : Nat → Bool) : sumP f 8 = u8 (mk8 f) := by
  unfold mk8
  rw [← u8_byte]
  have := sumP_lo f 8
  have := sumP_hi f 8 (by omega)
  omega
theorem mk8_bit (f : Nat → Bool) (i : Nat) (h : i < 8) : (mk8 f).getLsbD i = f i := by
  have key : ∀ b0 b1 b2 b3 b4 b5 b6 b7 : Bool, ∀ i : Fin 8,
      (BitVec.ofInt 8 (((((((((0 : Int) + if b0 then 1 else 0) + if b1 then 2 else 0) + if b2 then 4 else 0) + if b3 then 8 else 0) + if b4 then 16 else 0) + if b5 then 32 else 0) + if b6 then 64 else 0) + if b7 then 128 else 0)).getLsbD i.val
        = [b0, b1, b2, b3, b4, b5, b6, b7].getD i.val false := by decide +kernel
  have h1 := key (f 0) (f 1) (f 2) (f 3) (f 4) (f 5) (f 6) (f 7) ⟨i, h⟩
  have h2 : mk8 f = BitVec.ofInt 8 (((((((((0 : Int) + if f 0 then 1 else 0) + if f 1 then 2 else 0) + if f 2 then 4 else 0) + if f 3 then 8 else 0) + if f 4 then 16 else 0) + if f 5 then 32 else 0) + if f 6 then 64 else 0) + if f 7 then 128 else 0) := rfl
  rw [h2, h1]
  have : ∀ i < 8, [f 0, f 1, f 2, f 3, f 4, f 5, f 6, f 7].getD i false = f i := by
    intro i hi
    match i, hi with
    | 0, _ | 1, _ | 2, _ | 3, _ | 4, _ | 5, _ | 6, _ | 7, _ => rfl
  exact this i h
theorem mk8_eq {f : Nat → Bool} {x : BitVec 8} (h : ∀ i < 8, f i = x.getLsbD i) : mk8 f = x := by
  apply BitVec.eq_of_getLsbD_eq
  intro i hi
  rw [mk8_bit f i hi, h i hi]

/-- Whether f holds at all, at one of the first k places. -/
def allTo (f : Nat → Bool) : Nat → Bool
  | 0 => true
  | k + 1 => allTo f k && f k
def anyTo (f : Nat → Bool) : Nat → Bool
  | 0 => false
  | k + 1 => anyTo f k || f k
theorem allTo_iff (f : Nat → Bool) : ∀ k, allTo f k = true ↔ ∀ i < k, f i = true
  | 0 => by simp [allTo]
  | k + 1 => by
    show (allTo f k && f k) = true ↔ _
    rw [Bool.and_eq_true, allTo_iff f k]
    constructor
    · rintro ⟨h, hk⟩ i hi
      by_cases e : i = k
      · rw [e]; exact hk
      · exact h i (by omega)
    · intro h; exact ⟨fun i hi => h i (by omega), h k (by omega)⟩
theorem anyTo_iff (f : Nat → Bool) : ∀ k, anyTo f k = true ↔ ∃ i, i < k ∧ f i = true
  | 0 => by simp [anyTo]
  | k + 1 => by
    show (anyTo f k || f k) = true ↔ _
    rw [Bool.or_eq_true, anyTo_iff f k]
    constructor
    · rintro (⟨i, hi, h⟩ | h)
      · exact ⟨i, by omega, h⟩
      · exact ⟨k, by omega, h⟩
    · rintro ⟨i, hi, h⟩
      by_cases e : i = k
      · rw [e] at h; exact .inr h
      · exact .inl ⟨i, by omega, h⟩

/-- Whether a bit may be 0, may be 1. -/
def m0 (x t : BitVec 8) (i : Nat) : Bool := !bitAt x i || bitAt t i
def m1 (x t : BitVec 8) (i : Nat) : Bool := bitAt x i || bitAt t i
theorem zero_bits (x : BitVec 8) : allTo (fun i => !bitAt x i) 8 = (x == 0#8) := by
  rw [Bool.eq_iff_iff, allTo_iff, beq_iff_eq]
  constructor
  · intro h
    apply BitVec.eq_of_getLsbD_eq
    intro i hi
    have := h i hi
    unfold bitAt at this
    rw [BitVec.getLsbD_zero]
    simpa using this
  · rintro rfl i hi
    unfold bitAt
    simp
theorem zero_may (x t : BitVec 8) : (allTo (m0 x t) 8 && anyTo (m1 x t) 8) = zT x t := by
  have e0 : allTo (m0 x t) 8 = (x &&& ~~~t == 0#8) := by
    rw [← zero_bits, Bool.eq_iff_iff, allTo_iff, allTo_iff]
    refine ⟨fun h i hi => ?_, fun h i hi => ?_⟩
    all_goals
      have := h i hi
      revert this
      unfold m0 bitAt
      simp only [BitVec.getLsbD_and, BitVec.getLsbD_not, hi, decide_true, Bool.true_and]
      cases x.getLsbD i <;> cases t.getLsbD i <;> simp
  have e1 : anyTo (m1 x t) 8 = (x ||| t != 0#8) := by
    have : (x ||| t != 0#8) = !(allTo (fun i => !bitAt (x ||| t) i) 8) := by rw [zero_bits]; rfl
    rw [this, Bool.eq_iff_iff, anyTo_iff, Bool.not_eq_true', ← Bool.not_eq_true, allTo_iff]
    constructor
    · rintro ⟨i, hi, h⟩ hall
      have := hall i hi
      revert h this
      unfold m1 bitAt
      rw [BitVec.getLsbD_or]
      cases x.getLsbD i <;> cases t.getLsbD i <;> simp
    · intro h
      apply Classical.byContradiction
      intro hno
      refine h (fun i hi => ?_)
      have : ¬ m1 x t i = true := fun hm => hno ⟨i, hi, hm⟩
      revert this
      unfold m1 bitAt
      rw [BitVec.getLsbD_or]
      cases x.getLsbD i <;> cases t.getLsbD i <;> simp
  rw [e0, e1]; rfl
theorem spr_sum (t : BitVec 8) : sumP (fun k => anyTo (bitAt t) (k + 1)) 8 = u8 (spr t) := by
  have : ∀ t : BitVec 8, sumP (fun k => anyTo (bitAt t) (k + 1)) 8 = u8 (spr t) := by decide +kernel
  exact this t
/-- What Same tells. -/
def sameB (x t y s : BitVec 8) : Bool := t == s && (x &&& ~~~t == y &&& ~~~s)
theorem same_may (x t y s : BitVec 8) : allTo (fun i => m0 x t i == m0 y s i && m1 x t i == m1 y s i) 8 = sameB x t y s := by
  unfold sameB
  rw [Bool.eq_iff_iff, allTo_iff, Bool.and_eq_true, beq_iff_eq, beq_iff_eq]
  constructor
  · intro h
    have key : ∀ i < 8, t.getLsbD i = s.getLsbD i ∧ (t.getLsbD i = false → x.getLsbD i = y.getLsbD i) := fun i hi => by
      have := h i hi
      revert this
      unfold m0 m1 bitAt
      cases x.getLsbD i <;> cases t.getLsbD i <;> cases y.getLsbD i <;> cases s.getLsbD i <;> decide
    have hts : t = s := BitVec.eq_of_getLsbD_eq (fun i hi => (key i hi).1)
    subst hts
    exact ⟨rfl, alike_of fun i hi ht => (key i hi).2 ht⟩
  · rintro ⟨rfl, h⟩ i hi
    have := congrArg (fun z : BitVec 8 => z.getLsbD i) h
    simp only [BitVec.getLsbD_and, BitVec.getLsbD_not, hi, decide_true, Bool.true_and] at this
    revert this
    unfold m0 m1 bitAt
    cases x.getLsbD i <;> cases t.getLsbD i <;> cases y.getLsbD i <;> decide
end Go.Proofs.YtdpoonmgailonaaDoor
