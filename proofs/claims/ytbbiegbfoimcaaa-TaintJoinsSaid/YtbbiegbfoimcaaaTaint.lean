/-
  What the calls of package taint come to, call by call.
-/
import Derived.Test.YtbbiegbfoimcaaaJoin
import Derived.BigRegion
set_option linter.unusedSimpArgs false
set_option linter.unusedVariables false
namespace Go.Proofs.Ytbbiegbfoimcaaa
open Go.RowKit

set_option maxHeartbeats 400000 in
theorem and_c (a t b s : BitVec 8) (w : World) : Calls Try.prog 12 #[TB a t, TB b s] w fun e w' => e = .returned (TB (turnB 0#8 255#8 a b) (joinB 0#8 255#8 a t b s)) ∧ Below w.heap.size w w' := by
  go_enter Try.func12, Try.ntmps12
  go_wp2_with fail
  (refine (join_c a t b s 0#8 255#8 _).mono ?_; rintro _ w1 ⟨rfl, hb⟩; have hzw1 := hb.size; (try simp only [World.size_alloc, World.size_setCell, World.size_drew] at hzw1); have hlw10 : w.heap.size < w1.heap.size := (by first | omega | (simp at *; omega)); have hnw10 : ¬ (w.heap.size = w1.heap.size) := (by omega); have hmw10 : ¬ (w1.heap.size = w.heap.size) := (by omega); have hlw11 : w.heap.size + 1 < w1.heap.size := (by first | omega | (simp at *; omega)); have hnw11 : ¬ (w.heap.size + 1 = w1.heap.size) := (by omega); have hmw11 : ¬ (w1.heap.size = w.heap.size + 1) := (by omega); have hlw12 : w.heap.size + 1 + 1 < w1.heap.size := (by first | omega | (simp at *; omega)); have hnw12 : ¬ (w.heap.size + 1 + 1 = w1.heap.size) := (by omega); have hmw12 : ¬ (w1.heap.size = w.heap.size + 1 + 1) := (by omega); have hBw1 : Below w.heap.size w w1 := Below.trans (by go_grown) (hb.mono (by first | go_size | (simp; omega))); obtain ⟨hcw1, hfw1⟩ := bcell hb; (try simp only [World.size_alloc, World.size_setCell, World.size_drew] at hcw1 hfw1); clear hb)
  go_wp2
  refine bodyPost_ret (v := TB _ _) (by simp [results, Try.results12, go_sem, hcw1, hzw1]) rfl ⟨rfl, by go_grown⟩

set_option maxHeartbeats 400000 in
theorem or_c (a t b s : BitVec 8) (w : World) : Calls Try.prog 13 #[TB a t, TB b s] w fun e w' => e = .returned (TB (turnB 255#8 255#8 a b) (joinB 255#8 255#8 a t b s)) ∧ Below w.heap.size w w' := by
  go_enter Try.func13, Try.ntmps13
  go_wp2_with fail
  (refine (join_c a t b s 255#8 255#8 _).mono ?_; rintro _ w1 ⟨rfl, hb⟩; have hzw1 := hb.size; (try simp only [World.size_alloc, World.size_setCell, World.size_drew] at hzw1); have hlw10 : w.heap.size < w1.heap.size := (by first | omega | (simp at *; omega)); have hnw10 : ¬ (w.heap.size = w1.heap.size) := (by omega); have hmw10 : ¬ (w1.heap.size = w.heap.size) := (by omega); have hlw11 : w.heap.size + 1 < w1.heap.size := (by first | omega | (simp at *; omega)); have hnw11 : ¬ (w.heap.size + 1 = w1.heap.size) := (by omega); have hmw11 : ¬ (w1.heap.size = w.heap.size + 1) := (by omega); have hlw12 : w.heap.size + 1 + 1 < w1.heap.size := (by first | omega | (simp at *; omega)); have hnw12 : ¬ (w.heap.size + 1 + 1 = w1.heap.size) := (by omega); have hmw12 : ¬ (w1.heap.size = w.heap.size + 1 + 1) := (by omega); have hBw1 : Below w.heap.size w w1 := Below.trans (by go_grown) (hb.mono (by first | go_size | (simp; omega))); obtain ⟨hcw1, hfw1⟩ := bcell hb; (try simp only [World.size_alloc, World.size_setCell, World.size_drew] at hcw1 hfw1); clear hb)
  go_wp2
  refine bodyPost_ret (v := TB _ _) (by simp [results, Try.results13, go_sem, hcw1, hzw1]) rfl ⟨rfl, by go_grown⟩

set_option maxHeartbeats 400000 in
theorem xor_c (a t b s : BitVec 8) (w : World) : Calls Try.prog 14 #[TB a t, TB b s] w fun e w' => e = .returned (TB (turnB 255#8 0#8 a b) (joinB 255#8 0#8 a t b s)) ∧ Below w.heap.size w w' := by
  go_enter Try.func14, Try.ntmps14
  go_wp2_with fail
  (refine (join_c a t b s 255#8 0#8 _).mono ?_; rintro _ w1 ⟨rfl, hb⟩; have hzw1 := hb.size; (try simp only [World.size_alloc, World.size_setCell, World.size_drew] at hzw1); have hlw10 : w.heap.size < w1.heap.size := (by first | omega | (simp at *; omega)); have hnw10 : ¬ (w.heap.size = w1.heap.size) := (by omega); have hmw10 : ¬ (w1.heap.size = w.heap.size) := (by omega); have hlw11 : w.heap.size + 1 < w1.heap.size := (by first | omega | (simp at *; omega)); have hnw11 : ¬ (w.heap.size + 1 = w1.heap.size) := (by omega); have hmw11 : ¬ (w1.heap.size = w.heap.size + 1) := (by omega); have hlw12 : w.heap.size + 1 + 1 < w1.heap.size := (by first | omega | (simp at *; omega)); have hnw12 : ¬ (w.heap.size + 1 + 1 = w1.heap.size) := (by omega); have hmw12 : ¬ (w1.heap.size = w.heap.size + 1 + 1) := (by omega); have hBw1 : Below w.heap.size w w1 := Below.trans (by go_grown) (hb.mono (by first | go_size | (simp; omega))); obtain ⟨hcw1, hfw1⟩ := bcell hb; (try simp only [World.size_alloc, World.size_setCell, World.size_drew] at hcw1 hfw1); clear hb)
  go_wp2
  refine bodyPost_ret (v := TB _ _) (by simp [results, Try.results14, go_sem, hcw1, hzw1]) rfl ⟨rfl, by go_grown⟩

theorem isPlace_c (i : Int) (p : Bool) (hp : (decide (0 ≤ i) && decide (i ≤ 7)) = p) (w : World) : Calls Try.prog 42 #[.int .i64 i] w fun e w' => e = .returned (.bool p) ∧ w = w' := by
  subst hp
  by_cases h : 0 ≤ i <;> by_cases h' : i ≤ 7
  all_goals
    go_enter Try.func42, Try.ntmps42
    go_wp2
    go_ret
    exact ⟨by simp [h, h'], rfl⟩
theorem isPlace_in (i : Nat) (h : i < 8) (w : World) : Calls Try.prog 42 #[.int .i64 i] w fun e w' => e = .returned (.bool true) ∧ w = w' :=
  isPlace_c _ _ (by simp; omega) w
theorem isPlace_out (i : Int) (h : i < 0 ∨ 7 < i) (w : World) : Calls Try.prog 42 #[.int .i64 i] w fun e w' => e = .returned (.bool false) ∧ w = w' :=
  isPlace_c _ _ (by simp; omega) w

def setB (x : BitVec 8) (i : Nat) (v : Bool) : BitVec 8 := if v then x ||| (1#8 <<< i) else x &&& ~~~(1#8 <<< i)
theorem pow_u8 (i : Nat) (h : i < 8) : ((2 : Int) ^ i % 256) = u8 (1#8 <<< i) := by
  have : ∀ i : Fin 8, ((2 : Int) ^ i.val % 256) = ((1#8 <<< i.val).toNat : Int) := by decide
  exact this ⟨i, h⟩

set_option maxHeartbeats 400000 in
theorem with_c (x : BitVec 8) (i : Nat) (v : Bool) (h : i < 8) (w : World) : Calls Try.prog 43 #[B8 x, .int .i64 i, .bool v] w fun e w' => e = .returned (B8 (setB x i v)) ∧ w = w' := by
  have h1 := u8_or
  have h2 := u8_andNot
  have h3 := pow_u8 i h
  cases v
  all_goals
    go_enter Try.func43, Try.ntmps43
    go_wp2
    go_ret
    exact ⟨rfl, rfl⟩

set_option maxHeartbeats 400000 in
theorem bit_in (x t : BitVec 8) (i : Nat) (h : i < 8) (w : World) : Calls Try.prog 20 #[TB x t, .int .i64 i] w fun e w' => e = .returned (TBit (bitAt x i) (bitAt t i)) ∧ Below w.heap.size w w' := by
  have h3 := bit_test i
  go_enter Try.func20, Try.ntmps20
  go_upto_region 3 with (go_at_call 42; refine (isPlace_in i h _).mono ?_; rintro _ _ ⟨rfl, rfl⟩)
  go_region
  go_wp2
  refine bodyPost_ret (v := TBit _ _) (by simp [results, Try.results20, go_sem]) rfl ⟨rfl, by go_grown⟩

set_option maxHeartbeats 400000 in
theorem bit_out (x t : BitVec 8) (i : Int) (h : i < 0 ∨ 7 < i) (w : World) : Calls Try.prog 20 #[TB x t, .int .i64 i] w fun e w' => e = .returned (TBit false false) ∧ Below w.heap.size w w' := by
  go_enter Try.func20, Try.ntmps20
  go_wp2_with (go_at_call 42; refine (isPlace_out i h _).mono ?_; rintro _ _ ⟨rfl, rfl⟩)
  refine bodyPost_ret (v := TBit _ _) (by simp [results, Try.results20, go_sem]) rfl ⟨rfl, by go_grown⟩

set_option maxHeartbeats 400000 in
theorem put_in (x t : BitVec 8) (i : Nat) (v s : Bool) (h : i < 8) (w : World) : Calls Try.prog 22 #[TB x t, .int .i64 i, TBit v s] w fun e w' => e = .returned (TB (setB x i v) (setB t i s)) ∧ Below w.heap.size w w' := by
  go_enter Try.func22, Try.ntmps22
  go_wp2_with (go_at_call 42; refine (isPlace_in i h _).mono ?_; rintro _ _ ⟨rfl, rfl⟩)
  go_region_held3 (fun w' => w'.cell? ⟨w.heap.size, 0, none⟩ = some (B8 x) ∧ w'.cell? ⟨w.heap.size, 1, none⟩ = some (B8 t) ∧ w'.cell? ⟨w.heap.size + 1, 0, none⟩ = some (.bool v) ∧ w'.cell? ⟨w.heap.size + 1, 1, none⟩ = some (.bool s)) (first | (refine ⟨?_, ?_, ?_, ?_⟩ <;> (go_simp; done)) | go_keep)
    (first | (go_at_call 43; refine (with_c _ _ _ h _).mono ?_; rintro _ _ ⟨rfl, rfl⟩))
  go_wp2
  refine bodyPost_ret (v := TB _ _) (by simp [results, Try.results22, go_sem]) rfl ⟨rfl, by go_grown⟩

end Go.Proofs.Ytbbiegbfoimcaaa
