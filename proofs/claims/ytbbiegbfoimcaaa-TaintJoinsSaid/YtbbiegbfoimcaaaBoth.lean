/-
  What two bytes come to, bit by bit: the sums of the document's answer, in plain bits.
-/
import Derived.Test.YtbbiegbfoimcaaaRef2
set_option linter.unusedSimpArgs false
set_option linter.unusedVariables false
namespace Go.Proofs.Ytbbiegbfoimcaaa
open Go.RowKit

theorem power_b (i : Nat) (h : i ≤ 8) (w : World) : Calls Try.prog 36 #[.int .i64 i] w fun e w' => e = .returned (.int .i64 (pw i)) ∧ Below w.heap.size w w' :=
  (power_c i h w).mono fun _ _ ⟨h1, h2⟩ => ⟨h1, by subst h2; exact Below.refl _ _⟩

/-- Whether two bits may come to 0, to 1, by what each may be. -/
def may0 (f : Bool → Bool → Bool) (p0 p1 q0 q1 : Bool) : Bool := (p0 && q0 && !f false false) || (p0 && q1 && !f false true) || (p1 && q0 && !f true false) || (p1 && q1 && !f true true)
def may1 (f : Bool → Bool → Bool) (p0 p1 q0 q1 : Bool) : Bool := (p0 && q0 && f false false) || (p0 && q1 && f false true) || (p1 && q0 && f true false) || (p1 && q1 && f true true)
/-- The bits of both, and which of them are secret. -/
def bothV (f : Bool → Bool → Bool) (x y : BitVec 8) (i : Nat) : Bool := f (bitAt x i) (bitAt y i)
def bothT (f : Bool → Bool → Bool) (x t y s : BitVec 8) (i : Nat) : Bool := may0 f (m0 x t i) (m1 x t i) (m0 y s i) (m1 y s i) && may1 f (m0 x t i) (m1 x t i) (m0 y s i) (m1 y s i)

theorem andV (x y : BitVec 8) : mk8 (bothV Bool.and x y) = x &&& y := mk8_eq fun i hi => by
  rw [BitVec.getLsbD_and]; rfl
theorem orV (x y : BitVec 8) : mk8 (bothV Bool.or x y) = x ||| y := mk8_eq fun i hi => by
  rw [BitVec.getLsbD_or]; rfl
theorem xorV (x y : BitVec 8) : mk8 (bothV Bool.xor x y) = x ^^^ y := mk8_eq fun i hi => by
  rw [BitVec.getLsbD_xor]; rfl
theorem andS (x t y s : BitVec 8) : mk8 (bothT Bool.and x t y s) = ((x &&& ~~~t) &&& (y &&& ~~~s)) ^^^ ((x ||| t) &&& (y ||| s)) := mk8_eq fun i hi => by
  simp only [BitVec.getLsbD_or, BitVec.getLsbD_and, BitVec.getLsbD_xor, BitVec.getLsbD_not, hi, decide_true, Bool.true_and]
  unfold bothT m0 m1 bitAt
  cases x.getLsbD i <;> cases t.getLsbD i <;> cases y.getLsbD i <;> cases s.getLsbD i <;> rfl
theorem orS (x t y s : BitVec 8) : mk8 (bothT Bool.or x t y s) = ((x &&& ~~~t) ||| (y &&& ~~~s)) ^^^ ((x ||| t) ||| (y ||| s)) := mk8_eq fun i hi => by
  simp only [BitVec.getLsbD_or, BitVec.getLsbD_and, BitVec.getLsbD_xor, BitVec.getLsbD_not, hi, decide_true, Bool.true_and]
  unfold bothT m0 m1 bitAt
  cases x.getLsbD i <;> cases t.getLsbD i <;> cases y.getLsbD i <;> cases s.getLsbD i <;> rfl
theorem xorS (x t y s : BitVec 8) : mk8 (bothT Bool.xor x t y s) = ((x &&& ~~~t) ^^^ (x ||| t)) ||| ((y &&& ~~~s) ^^^ (y ||| s)) := mk8_eq fun i hi => by
  simp only [BitVec.getLsbD_or, BitVec.getLsbD_and, BitVec.getLsbD_xor, BitVec.getLsbD_not, hi, decide_true, Bool.true_and]
  unfold bothT m0 m1 bitAt
  cases x.getLsbD i <;> cases t.getLsbD i <;> cases y.getLsbD i <;> cases s.getLsbD i <;> rfl
theorem wrap_s (n : Int) (h0 : 0 ≤ n) (h1 : n < 1000) : IntKind.i64.wrap n = n := IntWalk.i64_in n (by omega)
end Go.Proofs.Ytbbiegbfoimcaaa
