/-
  Arrays compared: element by element.
-/
import Derived.Test.YtcilnbkmaoneaaaDoorZero8
import Derived.Laws.StructEq
set_option linter.unusedSimpArgs false
set_option linter.unusedVariables false
namespace Go.Proofs.YtcilnbkmaoneaaaDoor
open Go.RowKit Go.PlainAid

section
variable {P : Program}
theorem eq_rounds (w : World) (d n : Nat) (e : TypeId) (xs ys : Array Value) (q : Nat → Bool) : ∀ l : List Nat,
    (∀ i ∈ l, ((do
      let a ← part e xs (i * n)
      let b ← part e ys (i * n)
      Op.equalIn d e a b : Sem Bool)).run P w = .ok (q i) w) →
    ((do
      for i in l do
        if !(← Op.equalIn d e (← part e xs (i * n)) (← part e ys (i * n))) then return false
      pure true : Sem Bool)).run P w = .ok (l.all q) w
  | [], _ => by simp
  | i :: r, h => by
    have h0 := h i (List.mem_cons_self ..)
    have h1 := eq_rounds w d n e xs ys q r (fun j hj => h j (List.mem_cons_of_mem _ hj))
    simp only [List.forIn_cons, Sem.run_bind] at h0 h1 ⊢
    cases hp : (part e xs (i * n)).run P w with
    | halt x w1 => rw [hp] at h0; simp [Result.andThen] at h0
    | ok a w1 =>
      rw [hp] at h0
      simp only [Result.andThen_ok] at h0 ⊢
      cases hq : (part e ys (i * n)).run P w1 with
      | halt x w2 => rw [hq] at h0; simp [Result.andThen] at h0
      | ok b w2 =>
        rw [hq] at h0
        simp only [Result.andThen_ok] at h0 ⊢
        rw [h0]
        simp only [Result.andThen_ok, List.all_cons]
        cases hqi : q i
        · simp
        · simp only [Bool.not_true, Bool.false_eq_true, if_false, Sem.run_pure, Result.andThen_ok, Bool.true_and]
          exact h1
theorem run_equalIn_arr (w : World) (d : Nat) (t e : TypeId) (len n : Nat) (xs ys : Array Value) (q : Nat → Bool) (ht : P.underlying t = some (.array len e)) (hn : (sizeOf e).run P w = .ok n w)
    (h : ∀ i, i < len → ((do
      let a ← part e xs (i * n)
      let b ← part e ys (i * n)
      Op.equalIn d e a b : Sem Bool)).run P w = .ok (q i) w) : (Op.equalIn (d + 1) t (.agg xs) (.agg ys)).run P w = .ok ((List.range len).all q) w := by
  have h1 := eq_rounds w d n e xs ys q (List.range len) (fun i hi => h i (List.mem_range.1 hi))
  simp only [Op.equalIn, Sem.run_bind, run_underlying ht, Result.andThen_ok, hn, Std.Legacy.Range.forIn_eq_forIn_range', Std.Legacy.Range.size]
  rw [List.range_eq_range'] at h1 ⊢
  simp only [Sem.run_bind] at h1
  simp at h1 ⊢
  exact h1
theorem run_eql_arr (w : World) (t e : TypeId) (len n : Nat) (xs ys : Array Value) (q : Nat → Bool) (ht : P.underlying t = some (.array len e)) (hn : (sizeOf e).run P w = .ok n w)
    (h : ∀ i, i < len → ((do
      let a ← part e xs (i * n)
      let b ← part e ys (i * n)
      Op.equalIn 9999 e a b : Sem Bool)).run P w = .ok (q i) w) : (binOp .eql t (.agg xs) (.agg ys)).run P w = .ok (.bool ((List.range len).all q)) w := by
  rw [run_eql_struct, run_equalIn_arr w 9999 t e len n xs ys q ht hn h]
  rfl
end
/-- Two bytes compared. -/
theorem eq_byte (v t v' t' : Int) (w : World) : (Op.equalIn 9999 42 (.agg #[.int .u8 v, .int .u8 t]) (.agg #[.int .u8 v', .int .u8 t'])).run Tryd.prog w = .ok ((v == v') && (t == t')) w := by
  cases h1 : v == v' <;> cases h2 : t == t' <;> (go_simp <;> simp [h1, h2])
end Go.Proofs.YtcilnbkmaoneaaaDoor
