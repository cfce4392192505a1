/-
  What the calls of package taint come to, call by call: the second part.
-/
import Derived.Test.YtbbiegbfoimcaaaTaint
set_option linter.unusedSimpArgs false
set_option linter.unusedVariables false
namespace Go.Proofs.Ytbbiegbfoimcaaa
open Go.RowKit

set_option maxHeartbeats 400000 in
theorem put_out (x t : BitVec 8) (i : Int) (v s : Bool) (h : i < 0 ∨ 7 < i) (w : World) : Calls Try.prog 22 #[TB x t, .int .i64 i, TBit v s] w fun e w' => e = .returned (TB x t) ∧ Below w.heap.size w w' := by
  go_enter Try.func22, Try.ntmps22
  go_wp2_with (go_at_call 42; refine (isPlace_out i h _).mono ?_; rintro _ _ ⟨rfl, rfl⟩)
  refine bodyPost_ret (v := TB _ _) (by simp [results, Try.results22, go_sem]) rfl ⟨rfl, by go_grown⟩

set_option maxHeartbeats 400000 in
theorem erase_c (x t : BitVec 8) (w : World) : Calls Try.prog 28 #[TB x t] w fun e w' => e = .returned (TB x 0#8) ∧ Below w.heap.size w w' := by
  have h0 := u8_zero
  go_enter Try.func28, Try.ntmps28
  go_wp2
  refine bodyPost_ret (v := TB _ _) (by simp [results, Try.results28, go_sem, u8_zero]) rfl ⟨rfl, by go_grown⟩

set_option maxHeartbeats 400000 in
theorem of_c (n : Int) (w : World) : Calls Try.prog 31 #[.int .i64 n] w fun e w' => e = .returned (TB (BitVec.ofInt 8 n) 0#8) ∧ Below w.heap.size w w' := by
  go_enter Try.func31, Try.ntmps31
  go_wp2
  rw [u8_byte n]
  refine bodyPost_ret (v := TB (BitVec.ofInt 8 n) 0#8) (by simp [results, Try.results31, go_sem, u8_zero]) rfl ⟨rfl, by go_grown⟩

set_option maxHeartbeats 400000 in
theorem spread_c (x : BitVec 8) (w : World) : Calls Try.prog 26 #[B8 x] w fun e w' => e = .returned (B8 (x ||| -x)) ∧ w = w' := by
  have h1 := u8_or
  have h2 := u8_neg
  go_enter Try.func26, Try.ntmps26
  go_wp2
  go_ret
  exact ⟨rfl, rfl⟩

set_option maxHeartbeats 400000 in
theorem same_c (x t y s : BitVec 8) (w : World) : Calls Try.prog 29 #[TB x t, TB y s] w fun e w' => e = .returned (.bool (t == s && (x &&& ~~~t == y &&& ~~~s))) ∧ Below w.heap.size w w' := by
  have h1 := u8_andNot
  have h2 := u8_beq
  by_cases h : t = s
  · subst h
    go_enter Try.func29, Try.ntmps29
    go_wp2
    go_ret
    exact ⟨by simp, by go_grown⟩
  · have h' : (t == s) = false := by simpa using h
    go_enter Try.func29, Try.ntmps29
    go_wp2
    go_ret
    exact ⟨by simp [h'], by go_grown⟩

set_option maxHeartbeats 400000 in
theorem zero_c (x t : BitVec 8) (w : World) : Calls Try.prog 24 #[TB x t] w fun e w' => e = .returned (TBit (x == 0#8) ((x &&& ~~~t == 0#8) && (x ||| t != 0#8))) ∧ Below w.heap.size w w' := by
  have h1 := u8_andNot
  have h2 := u8_or
  have h3 := u8_beq0
  have h4 := u8_bne0
  cases h : (x &&& ~~~t == 0#8)
  all_goals
    go_enter Try.func24, Try.ntmps24
    go_wp2
    refine bodyPost_ret (v := TBit _ _) (by simp [results, Try.results24, go_sem, h, Bool.and_false, Bool.and_true, Bool.true_and, Bool.false_and]) rfl ⟨rfl, by go_grown⟩

theorem put0_c (x t : BitVec 8) (v s : Bool) (w : World) : Calls Try.prog 22 #[TB x t, .int .i64 0, TBit v s] w fun e w' => e = .returned (TB (setB x 0 v) (setB t 0 s)) ∧ Below w.heap.size w w' :=
  put_in x t 0 v s (by omega) w
theorem put7_c (x t : BitVec 8) (v s : Bool) (w : World) : Calls Try.prog 22 #[TB x t, .int .i64 7, TBit v s] w fun e w' => e = .returned (TB (setB x 7 v) (setB t 7 s)) ∧ Below w.heap.size w w' :=
  put_in x t 7 v s (by omega) w
theorem bit0_c (x t : BitVec 8) (w : World) : Calls Try.prog 20 #[TB x t, .int .i64 0] w fun e w' => e = .returned (TBit (bitAt x 0) (bitAt t 0)) ∧ Below w.heap.size w w' :=
  bit_in x t 0 (by omega) w
theorem bit7_c (x t : BitVec 8) (w : World) : Calls Try.prog 20 #[TB x t, .int .i64 7] w fun e w' => e = .returned (TBit (bitAt x 7) (bitAt t 7)) ∧ Below w.heap.size w w' :=
  bit_in x t 7 (by omega) w

end Go.Proofs.Ytbbiegbfoimcaaa
