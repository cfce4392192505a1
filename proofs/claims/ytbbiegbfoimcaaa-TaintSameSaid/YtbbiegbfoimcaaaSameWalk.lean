/-
  TaintSame returns true: the walk.
-/
import Derived.Test.YtbbiegbfoimcaaaRef2
import Derived.Test.YtbbiegbfoimcaaaAwake
set_option linter.unusedSimpArgs false
set_option linter.unusedVariables false
namespace Go.Proofs.Ytbbiegbfoimcaaa
open Go.RowKit

theorem same_n (x t y s : BitVec 8) (w : World) : Calls Try.prog 29 #[TB x t, TB y s] w fun e w' => e = .returned (.bool (sameB x t y s)) ∧ Below w.heap.size w w' := same_c x t y s w
theorem of_n (n : Int) (w : World) : Calls Try.prog 31 #[.int .i64 n] w fun e w' => e = .returned (TB (BitVec.ofInt 8 n) 0#8) ∧ Below w.heap.size w w' := of_c n w
theorem mod_lo (n : Int) : -256 < n.tmod 256 := by have := Int.lt_tmod_of_pos n (by decide : (0 : Int) < 256); omega
theorem mod_hi (n : Int) : n.tmod 256 < 256 := Int.tmod_lt_of_pos n (by decide)
theorem mod_mod (n : Int) : n.tmod 256 % 256 = n % 256 := by
  have h1 := Int.tmod_add_mul_tdiv n 256
  omega
theorem byte_mod (n : Int) : IntKind.u8.wrap (n.tmod 256) = u8 (BitVec.ofInt 8 n) := by
  rw [IntKind.wrap_u8', mod_mod, u8_byte]
theorem byte_mod2 (n : Int) : IntKind.u8.wrap (n.tmod 256 + 256) = u8 (BitVec.ofInt 8 n) := by
  rw [IntKind.wrap_u8', Int.add_emod_right, mod_mod, u8_byte]

set_option maxRecDepth 100000 in
set_option maxHeartbeats 2000000 in
theorem same_walk (x t y s : BitVec 8) (n : Int) (hl : -9223372036854775808 ≤ n) (hh : n ≤ 9223372036854775807) (w : World) : Calls Try.prog 6 #[TB x t, TB y s, .int .i64 n] w (LawEnd w) := by
  have m1 := mod_lo n
  have m2 := mod_hi n
  have m3 := byte_mod n
  have m4 := byte_mod2 n
  have m5 := u8_zero
  have m6 : sameB x t x t = true := by simp [sameB]
  clear hl hh
  by_cases h : n.tmod 256 < 0
  all_goals
    go_enter Try.func6, Try.ntmps6
    go_wp2_with fail
    refine wp_region_plan (fun w' => w'.cell? ⟨w.heap.size, 0, none⟩ = some (B8 x) ∧ w'.cell? ⟨w.heap.size, 1, none⟩ = some (B8 t) ∧ w'.cell? ⟨w.heap.size + 1, 0, none⟩ = some (B8 y) ∧ w'.cell? ⟨w.heap.size + 1, 1, none⟩ = some (B8 s) ∧ Below w.heap.size w w') (by kernel_rfl) (by kernel_rfl) (by kernel_rfl) ?_ ?_
    · (try dsimp only)
      refine ⟨?_, ?_, ?_, ?_, ?_⟩ <;> first | (go_simp; done) | (simp [*]; done) | go_grown
    repeat (first
      | (refine Plan.val (v := ?_) ?_ ?_ ?_; rotate_left; (· rfl); (· (intro W hSw; (try dsimp only at hSw); go_simp; all_goals (first | (with_reducible rfl) | (constructor <;> (with_reducible rfl))))); (try simp only [Act.put, List.setIfInBounds_toArray, List.set_cons_zero, List.set_cons_succ]))
      | (refine Plan.no ?_ ?_; (· rfl); (try simp only [Act.put, List.setIfInBounds_toArray, List.set_cons_zero, List.set_cons_succ]))
      | (refine Plan.call (v := ?_) (f := ?_) (args := ?_) ?_ ?_ ?_ ?_; rotate_left 3; (· rfl); (· (intro W hSw; (try dsimp only at hSw); go_simp; all_goals (first | (with_reducible rfl) | (constructor <;> (with_reducible rfl))))); (· (intro W hSw; (try dsimp only at hSw); first | (go_at_call 29; ((with_reducible refine (same_n _ _ _ _ _).mono ?_); rintro _ wz ⟨rfl, hb⟩; (refine ⟨?_, ?_⟩; (· with_reducible rfl); exact ⟨kc hb hSw.1, kc hb hSw.2.1, kc hb hSw.2.2.1, kc hb hSw.2.2.2.1, kb hSw.2.2.2.2 hb⟩))) | (go_at_call 30; ((with_reducible refine (same_r _ _ _ _ _).mono ?_); rintro _ wz ⟨rfl, hb⟩; (refine ⟨?_, ?_⟩; (· with_reducible rfl); exact ⟨kc hb hSw.1, kc hb hSw.2.1, kc hb hSw.2.2.1, kc hb hSw.2.2.2.1, kb hSw.2.2.2.2 hb⟩))) | (go_at_call 31; ((with_reducible refine (of_n _ _).mono ?_); rintro _ wz ⟨rfl, hb⟩; (refine ⟨?_, ?_⟩; (· with_reducible rfl); exact ⟨kc hb hSw.1, kc hb hSw.2.1, kc hb hSw.2.2.1, kc hb hSw.2.2.2.1, kb hSw.2.2.2.2 hb⟩))) | (go_at_call 15; ((with_reducible refine (awake_c _).mono ?_); rintro _ wz ⟨rfl, hb⟩; (refine ⟨?_, ?_⟩; (· with_reducible rfl); exact ⟨kc hb hSw.1, kc hb hSw.2.1, kc hb hSw.2.2.1, kc hb hSw.2.2.2.1, kb hSw.2.2.2.2 hb⟩))))); (try simp only [Act.put, List.setIfInBounds_toArray, List.set_cons_zero, List.set_cons_succ])))
    refine Plan.done ?_
    intro wz T
    (try dsimp only at T)
    have hBe := T.2.2.2.2
    go_wp2
    go_ret
    exact ⟨rfl, hBe⟩
end Go.Proofs.Ytbbiegbfoimcaaa
