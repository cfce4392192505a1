/-
  What the calls of package taint come to, call by call, that sums make.
-/
import Derived.Test.YtdmgdldadpkhgaaRows
import Derived.Test.YtdmgdldadpkhgaaLawKit
import Derived.Test.YtdmgdldadpkhgaaB8
import Derived.WalkKit
import Derived.WalkSpells
import Derived.WalkLawsBesides
import Derived.BigQuiet
import Derived.Deep.QuietTactic
import Derived.RegionTactic
import Derived.Handy
import Derived.Deep.RegionHeld3
import Derived.Deep.DeepCutAuto
import Derived.Deep.CutBlock
import Derived.BigRegion
import Derived.IntWalk
set_option linter.unusedSimpArgs false
set_option linter.unusedVariables false
namespace Go.Proofs.Ytdmgdldadpkhgaa
open Go.RowKit

theorem isPlace_c (i : Int) (p : Bool) (hp : (decide (0 ≤ i) && decide (i ≤ 7)) = p) (w : World) : Calls Try.prog 56 #[.int .i64 i] w fun e w' => e = .returned (.bool p) ∧ w = w' := by
  subst hp
  by_cases h : 0 ≤ i <;> by_cases h' : i ≤ 7
  all_goals
    go_enter Try.func56, Try.ntmps56
    go_wp2
    go_ret
    exact ⟨by simp [h, h'], rfl⟩
theorem isPlace_in (i : Nat) (h : i < 8) (w : World) : Calls Try.prog 56 #[.int .i64 i] w fun e w' => e = .returned (.bool true) ∧ w = w' :=
  isPlace_c _ _ (by simp; omega) w
set_option maxHeartbeats 400000 in
theorem bit_in (x t : BitVec 8) (i : Nat) (h : i < 8) (w : World) : Calls Try.prog 45 #[TB x t, .int .i64 i] w fun e w' => e = .returned (TBit (bitAt x i) (bitAt t i)) ∧ Below w.heap.size w w' := by
  have h3 := bit_test i
  go_enter Try.func45, Try.ntmps45
  go_upto_region 3 with (go_at_call 56; refine (isPlace_in i h _).mono ?_; rintro _ _ ⟨rfl, rfl⟩)
  go_region
  go_wp2
  refine bodyPost_ret (v := TBit _ _) (by simp [results, Try.results45, go_sem] <;> first | done | rfl | exact dec_eq Iff.rfl) rfl ⟨rfl, by go_grown⟩
set_option maxHeartbeats 400000 in
theorem of_c (n : Int) (w : World) : Calls Try.prog 25 #[.int .i64 n] w fun e w' => e = .returned (TB (BitVec.ofInt 8 n) 0#8) ∧ Below w.heap.size w w' := by
  go_enter Try.func25, Try.ntmps25
  go_wp2
  rw [u8_byte n]
  refine bodyPost_ret (v := TB (BitVec.ofInt 8 n) 0#8) (by simp [results, Try.results25, go_sem, u8_zero] <;> first | done | rfl | exact dec_eq Iff.rfl) rfl ⟨rfl, by go_grown⟩
set_option maxHeartbeats 400000 in
theorem spread_c (x : BitVec 8) (w : World) : Calls Try.prog 39 #[B8 x] w fun e w' => e = .returned (B8 (x ||| -x)) ∧ w = w' := by
  have h1 := u8_or
  have h2 := u8_neg
  go_enter Try.func39, Try.ntmps39
  go_wp2
  go_ret
  exact ⟨rfl, rfl⟩
set_option maxHeartbeats 400000 in
theorem same_c (x t y s : BitVec 8) (w : World) : Calls Try.prog 24 #[TB x t, TB y s] w fun e w' => e = .returned (.bool (t == s && (x &&& ~~~t == y &&& ~~~s))) ∧ Below w.heap.size w w' := by
  have h1 := u8_andNot
  have h2 := u8_beq
  by_cases h : t = s
  · subst h
    go_enter Try.func24, Try.ntmps24
    go_wp2
    go_ret
    exact ⟨by simp, by go_grown⟩
  · have h' : (t == s) = false := by simpa using h
    go_enter Try.func24, Try.ntmps24
    go_wp2
    go_ret
    exact ⟨by simp [h'], by go_grown⟩
set_option maxHeartbeats 400000 in
theorem zero_c (x t : BitVec 8) (w : World) : Calls Try.prog 46 #[TB x t] w fun e w' => e = .returned (TBit (x == 0#8) ((x &&& ~~~t == 0#8) && (x ||| t != 0#8))) ∧ Below w.heap.size w w' := by
  have h1 := u8_andNot
  have h2 := u8_or
  have h3 := u8_beq0
  have h4 := u8_bne0
  cases h : (x &&& ~~~t == 0#8)
  all_goals
    go_enter Try.func46, Try.ntmps46
    go_wp2
    refine bodyPost_ret (v := TBit _ _) (by simp [results, Try.results46, go_sem, h, Bool.and_false, Bool.and_true, Bool.true_and, Bool.false_and] <;> first | done | rfl | exact dec_eq Iff.rfl) rfl ⟨rfl, by go_grown⟩
theorem bit7_c (x t : BitVec 8) (w : World) : Calls Try.prog 45 #[TB x t, .int .i64 7] w fun e w' => e = .returned (TBit (bitAt x 7) (bitAt t 7)) ∧ Below w.heap.size w w' :=
  bit_in x t 7 (by omega) w
/-- A byte whose secret bits are turned. -/
def oth (x t p : BitVec 8) : BitVec 8 := x ^^^ (p &&& t)
theorem oth_bit (x t p : BitVec 8) (i : Nat) : (oth x t p).getLsbD i = (x.getLsbD i ^^ (p.getLsbD i && t.getLsbD i)) := by
  unfold oth; rw [BitVec.getLsbD_xor, BitVec.getLsbD_and]
theorem oth_rest (x t p : BitVec 8) : oth x t p &&& ~~~t = x &&& ~~~t := by
  apply BitVec.eq_of_getLsbD_eq
  intro i hi
  simp only [BitVec.getLsbD_and, BitVec.getLsbD_not, oth_bit, hi, decide_true, Bool.true_and]
  cases x.getLsbD i <;> cases t.getLsbD i <;> cases p.getLsbD i <;> rfl
theorem oth_all (x t p : BitVec 8) : oth x t p ||| t = x ||| t := by
  apply BitVec.eq_of_getLsbD_eq
  intro i hi
  simp only [BitVec.getLsbD_or, oth_bit]
  cases x.getLsbD i <;> cases t.getLsbD i <;> cases p.getLsbD i <;> rfl
/-- x and y are the same but for the secret bits t. -/
def alike (x y t : BitVec 8) : Prop := x &&& ~~~t = y &&& ~~~t
theorem alike_of {x y t : BitVec 8} (h : ∀ i < 8, t.getLsbD i = false → x.getLsbD i = y.getLsbD i) : alike x y t := by
  unfold alike
  apply BitVec.eq_of_getLsbD_eq
  intro i hi
  simp only [BitVec.getLsbD_and, BitVec.getLsbD_not, hi, decide_true, Bool.true_and]
  cases ht : t.getLsbD i
  · rw [h i hi ht]
  · simp
theorem same_yes (x y t : BitVec 8) (h : alike x y t) (w : World) : Calls Try.prog 24 #[TB x t, TB y t] w fun e w' => e = .returned (.bool true) ∧ Below w.heap.size w w' :=
  (same_c x t y t w).mono fun _ _ ⟨h1, h2⟩ => ⟨by rw [h1]; unfold alike at h; simp [h], h2⟩
theorem oth_alike (x t p : BitVec 8) : alike x (oth x t p) t := alike_of fun i hi h => by rw [oth_bit, h]; simp
/-- What Zero tells is secret. -/
def zT (x t : BitVec 8) : Bool := (x &&& ~~~t == 0#8) && (x ||| t != 0#8)
theorem zero_n (x t : BitVec 8) (w : World) : Calls Try.prog 46 #[TB x t] w fun e w' => e = .returned (TBit (x == 0#8) (zT x t)) ∧ Below w.heap.size w w' := zero_c x t w
/-- All bits from the lowest one on. -/
def spr (x : BitVec 8) : BitVec 8 := x ||| -x
theorem spread_n (x : BitVec 8) (w : World) : Calls Try.prog 39 #[B8 x] w fun e w' => e = .returned (B8 (spr x)) ∧ Below w.heap.size w w' :=
  (spread_c x w).mono fun _ _ ⟨h1, h2⟩ => ⟨h1, by subst h2; exact Below.refl _ _⟩
end Go.Proofs.Ytdmgdldadpkhgaa
