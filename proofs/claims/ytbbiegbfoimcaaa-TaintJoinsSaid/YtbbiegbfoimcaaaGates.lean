/-
  What taint.And, taint.Or and taint.Xor come to, in plain bits.
-/
import Derived.Test.YtbbiegbfoimcaaaTaint3
set_option linter.unusedSimpArgs false
set_option linter.unusedVariables false
namespace Go.Proofs.Ytbbiegbfoimcaaa
open Go.RowKit

/-- What is secret of two bytes' and, or, xor. -/
def andT (a t b s : BitVec 8) : BitVec 8 := ((a &&& ~~~t) &&& (b &&& ~~~s)) ^^^ ((a ||| t) &&& (b ||| s))
def orT (a t b s : BitVec 8) : BitVec 8 := ((a &&& ~~~t) ||| (b &&& ~~~s)) ^^^ ((a ||| t) ||| (b ||| s))
def xorT (a t b s : BitVec 8) : BitVec 8 := ((a &&& ~~~t) ^^^ (a ||| t)) ||| ((b &&& ~~~s) ^^^ (b ||| s))
theorem turn_and (a b : BitVec 8) : turnB 0#8 255#8 a b = a &&& b := by
  unfold turnB
  apply BitVec.eq_of_getLsbD_eq
  intro i hi
  have h := (by decide : ∀ i < 8, (255#8).getLsbD i = true) i hi
  simp [h]
theorem turn_or (a b : BitVec 8) : turnB 255#8 255#8 a b = a ||| b := by
  unfold turnB
  apply BitVec.eq_of_getLsbD_eq
  intro i hi
  have h := (by decide : ∀ i < 8, (255#8).getLsbD i = true) i hi
  simp only [BitVec.getLsbD_or, BitVec.getLsbD_and, BitVec.getLsbD_xor, h]
  cases a.getLsbD i <;> cases b.getLsbD i <;> rfl
theorem turn_xor (a b : BitVec 8) : turnB 255#8 0#8 a b = a ^^^ b := by
  unfold turnB
  apply BitVec.eq_of_getLsbD_eq
  intro i hi
  have h := (by decide : ∀ i < 8, (255#8).getLsbD i = true) i hi
  simp [h]
theorem join_and (a t b s : BitVec 8) : joinB 0#8 255#8 a t b s = andT a t b s := by
  unfold joinB andT
  simp only [turn_and]
  apply BitVec.eq_of_getLsbD_eq
  intro i hi
  simp only [BitVec.getLsbD_or, BitVec.getLsbD_and, BitVec.getLsbD_xor, BitVec.getLsbD_not, hi, decide_true, Bool.true_and]
  cases a.getLsbD i <;> cases b.getLsbD i <;> cases t.getLsbD i <;> cases s.getLsbD i <;> rfl
theorem join_or (a t b s : BitVec 8) : joinB 255#8 255#8 a t b s = orT a t b s := by
  unfold joinB orT
  simp only [turn_or]
  apply BitVec.eq_of_getLsbD_eq
  intro i hi
  simp only [BitVec.getLsbD_or, BitVec.getLsbD_and, BitVec.getLsbD_xor, BitVec.getLsbD_not, hi, decide_true, Bool.true_and]
  cases a.getLsbD i <;> cases b.getLsbD i <;> cases t.getLsbD i <;> cases s.getLsbD i <;> rfl
theorem join_xor (a t b s : BitVec 8) : joinB 255#8 0#8 a t b s = xorT a t b s := by
  unfold joinB xorT
  simp only [turn_xor]
  apply BitVec.eq_of_getLsbD_eq
  intro i hi
  simp only [BitVec.getLsbD_or, BitVec.getLsbD_and, BitVec.getLsbD_xor, BitVec.getLsbD_not, hi, decide_true, Bool.true_and]
  cases a.getLsbD i <;> cases b.getLsbD i <;> cases t.getLsbD i <;> cases s.getLsbD i <;> rfl

theorem and_d (a t b s : BitVec 8) (w : World) : Calls Try.prog 12 #[TB a t, TB b s] w fun e w' => e = .returned (TB (a &&& b) (((a &&& ~~~t) &&& (b &&& ~~~s)) ^^^ ((a ||| t) &&& (b ||| s)))) ∧ Below w.heap.size w w' :=
  (and_c a t b s w).mono fun _ _ ⟨h1, h2⟩ => ⟨by rw [h1, turn_and, join_and]; rfl, h2⟩
theorem or_d (a t b s : BitVec 8) (w : World) : Calls Try.prog 13 #[TB a t, TB b s] w fun e w' => e = .returned (TB (a ||| b) (((a &&& ~~~t) ||| (b &&& ~~~s)) ^^^ ((a ||| t) ||| (b ||| s)))) ∧ Below w.heap.size w w' :=
  (or_c a t b s w).mono fun _ _ ⟨h1, h2⟩ => ⟨by rw [h1, turn_or, join_or]; rfl, h2⟩
theorem xor_d (a t b s : BitVec 8) (w : World) : Calls Try.prog 14 #[TB a t, TB b s] w fun e w' => e = .returned (TB (a ^^^ b) (((a &&& ~~~t) ^^^ (a ||| t)) ||| ((b &&& ~~~s) ^^^ (b ||| s)))) ∧ Below w.heap.size w w' :=
  (xor_c a t b s w).mono fun _ _ ⟨h1, h2⟩ => ⟨by rw [h1, turn_xor, join_xor]; rfl, h2⟩

end Go.Proofs.Ytbbiegbfoimcaaa
