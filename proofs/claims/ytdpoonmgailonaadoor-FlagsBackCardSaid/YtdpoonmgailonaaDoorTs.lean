/-
  What the calls of package taint come to, call by call, that flags make.
-/
import Derived.Test.YtdpoonmgailonaaDoorRows
import Derived.Test.YtdpoonmgailonaaDoorLawKit
import Derived.Test.YtdpoonmgailonaaDoorB8
import Derived.Test.YtdpoonmgailonaaDoorHeld
import Derived.Lib.Hide
import Derived.Outline
import Derived.WalkKit
import Derived.WalkSpells
import Derived.WalkLawsBesides
import Derived.BigQuiet
import Derived.Deep.QuietTactic
import Derived.RegionTactic
import Derived.Handy
import Derived.Deep.RegionHeld3
import Derived.Deep.DeepCutAuto
import Derived.Deep.CutBlock
import Derived.BigRegion
import Derived.IntWalk
set_option linter.unusedSimpArgs false
set_option linter.unusedVariables false
namespace Go.Proofs.YtdpoonmgailonaaDoor
open Go.RowKit

theorem isPlace_c (i : Int) (p : Bool) (hp : (decide (0 ≤ i) && decide (i ≤ 7)) = p) (w : World) : Calls Tryd.prog 32 #[.int .i64 i] w fun e w' => e = .returned (.bool p) ∧ w = w' := by
  subst hp
  by_cases h : 0 ≤ i <;> by_cases h' : i ≤ 7
  all_goals
    go_enter Tryd.func32, Tryd.ntmps32
    go_wp2
    go_ret
    exact ⟨by simp [h, h'], rfl⟩
theorem isPlace_in (i : Nat) (h : i < 8) (w : World) : Calls Tryd.prog 32 #[.int .i64 i] w fun e w' => e = .returned (.bool true) ∧ w = w' :=
  isPlace_c _ _ (by simp; omega) w
set_option maxHeartbeats 400000 in
theorem bit_in (x t : BitVec 8) (i : Nat) (h : i < 8) (w : World) : Calls Tryd.prog 24 #[TB x t, .int .i64 i] w fun e w' => e = .returned (TBit (bitAt x i) (bitAt t i)) ∧ Below w.heap.size w w' := by
  have h3 := bit_test i
  go_enter Tryd.func24, Tryd.ntmps24
  go_upto_region 3 with (go_at_call 32; refine (isPlace_in i h _).mono ?_; rintro _ _ ⟨rfl, rfl⟩)
  go_region
  go_wp2
  refine bodyPost_ret (v := TBit _ _) (by simp [results, Tryd.results24, go_sem] <;> first | done | rfl | exact dec_eq Iff.rfl) rfl ⟨rfl, by go_grown⟩
set_option maxHeartbeats 400000 in
theorem of_c (n : Int) (w : World) : Calls Tryd.prog 23 #[.int .i64 n] w fun e w' => e = .returned (TB (BitVec.ofInt 8 n) 0#8) ∧ Below w.heap.size w w' := by
  go_enter Tryd.func23, Tryd.ntmps23
  go_wp2
  rw [u8_byte n]
  refine bodyPost_ret (v := TB (BitVec.ofInt 8 n) 0#8) (by simp [results, Tryd.results23, go_sem, u8_zero] <;> first | done | rfl | exact dec_eq Iff.rfl) rfl ⟨rfl, by go_grown⟩
set_option maxHeartbeats 400000 in
theorem same_c (x t y s : BitVec 8) (w : World) : Calls Tryd.prog 22 #[TB x t, TB y s] w fun e w' => e = .returned (.bool (t == s && (x &&& ~~~t == y &&& ~~~s))) ∧ Below w.heap.size w w' := by
  have h1 := u8_andNot
  have h2 := u8_beq
  by_cases h : t = s
  · subst h
    go_enter Tryd.func22, Tryd.ntmps22
    go_wp2
    go_ret
    exact ⟨by simp, by go_grown⟩
  · have h' : (t == s) = false := by simpa using h
    go_enter Tryd.func22, Tryd.ntmps22
    go_wp2
    go_ret
    exact ⟨by simp [h'], by go_grown⟩
set_option maxHeartbeats 400000 in
theorem zero_c (x t : BitVec 8) (w : World) : Calls Tryd.prog 29 #[TB x t] w fun e w' => e = .returned (TBit (x == 0#8) ((x &&& ~~~t == 0#8) && (x ||| t != 0#8))) ∧ Below w.heap.size w w' := by
  have h1 := u8_andNot
  have h2 := u8_or
  have h3 := u8_beq0
  have h4 := u8_bne0
  cases h : (x &&& ~~~t == 0#8)
  all_goals
    go_enter Tryd.func29, Tryd.ntmps29
    go_wp2
    refine bodyPost_ret (v := TBit _ _) (by simp [results, Tryd.results29, go_sem, h, Bool.and_false, Bool.and_true, Bool.true_and, Bool.false_and] <;> first | done | rfl | exact dec_eq Iff.rfl) rfl ⟨rfl, by go_grown⟩
theorem bit7_c (x t : BitVec 8) (w : World) : Calls Tryd.prog 24 #[TB x t, .int .i64 7] w fun e w' => e = .returned (TBit (bitAt x 7) (bitAt t 7)) ∧ Below w.heap.size w w' :=
  bit_in x t 7 (by omega) w
/-- A byte whose secret bits are turned. -/
def oth (x t p : BitVec 8) : BitVec 8 := x ^^^ (p &&& t)
theorem oth_bit (x t p : BitVec 8) (i : Nat) : (oth x t p).getLsbD i = (x.getLsbD i ^^ (p.getLsbD i && t.getLsbD i)) := by
  unfold oth; rw [BitVec.getLsbD_xor, BitVec.getLsbD_and]
theorem oth_rest (x t p : BitVec 8) : oth x t p &&& ~~~t = x &&& ~~~t := by
  apply BitVec.eq_of_getLsbD_eq
  intro i hi
  simp only [BitVec.getLsbD_and, BitVec.getLsbD_not, oth_bit, hi, decide_true, Bool.true_and]
  cases x.getLsbD i <;> cases t.getLsbD i <;> cases p.getLsbD i <;> rfl
theorem oth_all (x t p : BitVec 8) : oth x t p ||| t = x ||| t := by
  apply BitVec.eq_of_getLsbD_eq
  intro i hi
  simp only [BitVec.getLsbD_or, oth_bit]
  cases x.getLsbD i <;> cases t.getLsbD i <;> cases p.getLsbD i <;> rfl
/-- x and y are the same but for the secret bits t. -/
def alike (x y t : BitVec 8) : Prop := x &&& ~~~t = y &&& ~~~t
theorem alike_of {x y t : BitVec 8} (h : ∀ i < 8, t.getLsbD i = false → x.getLsbD i = y.getLsbD i) : alike x y t := by
  unfold alike
  apply BitVec.eq_of_getLsbD_eq
  intro i hi
  simp only [BitVec.getLsbD_and, BitVec.getLsbD_not, hi, decide_true, Bool.true_and]
  cases ht : t.getLsbD i
  · rw [h i hi ht]
  · simp
theorem same_yes (x y t : BitVec 8) (h : alike x y t) (w : World) : Calls Tryd.prog 22 #[TB x t, TB y t] w fun e w' => e = .returned (.bool true) ∧ Below w.heap.size w w' :=
  (same_c x t y t w).mono fun _ _ ⟨h1, h2⟩ => ⟨by rw [h1]; unfold alike at h; simp [h], h2⟩
theorem oth_alike (x t p : BitVec 8) : alike x (oth x t p) t := alike_of fun i hi h => by rw [oth_bit, h]; simp
/-- What Zero tells is secret. -/
def zT (x t : BitVec 8) : Bool := (x &&& ~~~t == 0#8) && (x ||| t != 0#8)
theorem zero_n (x t : BitVec 8) (w : World) : Calls Tryd.prog 29 #[TB x t] w fun e w' => e = .returned (TBit (x == 0#8) (zT x t)) ∧ Below w.heap.size w w' := zero_c x t w
/-- All bits from the lowest one on. -/
def spr (x : BitVec 8) : BitVec 8 := x ||| -x
theorem isPlace_out (i : Int) (h : i < 0 ∨ 7 < i) (w : World) : Calls Tryd.prog 32 #[.int .i64 i] w fun e w' => e = .returned (.bool false) ∧ w = w' :=
  isPlace_c _ _ (by simp; omega) w

def setB (x : BitVec 8) (i : Nat) (v : Bool) : BitVec 8 := if v then x ||| (1#8 <<< i) else x &&& ~~~(1#8 <<< i)
theorem pow_u8 (i : Nat) (h : i < 8) : ((2 : Int) ^ i % 256) = u8 (1#8 <<< i) := by
  have : ∀ i : Fin 8, ((2 : Int) ^ i.val % 256) = ((1#8 <<< i.val).toNat : Int) := by decide
  exact this ⟨i, h⟩

set_option maxHeartbeats 400000 in
theorem with_c (x : BitVec 8) (i : Nat) (v : Bool) (h : i < 8) (w : World) : Calls Tryd.prog 34 #[B8 x, .int .i64 i, .bool v] w fun e w' => e = .returned (B8 (setB x i v)) ∧ w = w' := by
  have h1 := u8_or
  have h2 := u8_andNot
  have h3 := pow_u8 i h
  cases v
  all_goals
    go_enter Tryd.func34, Tryd.ntmps34
    go_wp2
    go_ret
    exact ⟨rfl, rfl⟩

set_option maxHeartbeats 400000 in
theorem bit_out (x t : BitVec 8) (i : Int) (h : i < 0 ∨ 7 < i) (w : World) : Calls Tryd.prog 24 #[TB x t, .int .i64 i] w fun e w' => e = .returned (TBit false false) ∧ Below w.heap.size w w' := by
  go_enter Tryd.func24, Tryd.ntmps24
  go_wp2_with (go_at_call 32; refine (isPlace_out i h _).mono ?_; rintro _ _ ⟨rfl, rfl⟩)
  refine bodyPost_ret (v := TBit _ _) (by simp [results, Tryd.results24, go_sem] <;> first | done | rfl | exact dec_eq Iff.rfl) rfl ⟨rfl, by go_grown⟩

set_option maxHeartbeats 400000 in
theorem put_in (x t : BitVec 8) (i : Nat) (v s : Bool) (h : i < 8) (w : World) : Calls Tryd.prog 26 #[TB x t, .int .i64 i, TBit v s] w fun e w' => e = .returned (TB (setB x i v) (setB t i s)) ∧ Below w.heap.size w w' := by
  go_enter Tryd.func26, Tryd.ntmps26
  go_wp2_with (go_at_call 32; refine (isPlace_in i h _).mono ?_; rintro _ _ ⟨rfl, rfl⟩)
  go_region_held3 (fun w' => w'.cell? ⟨w.heap.size, 0, none⟩ = some (B8 x) ∧ w'.cell? ⟨w.heap.size, 1, none⟩ = some (B8 t) ∧ w'.cell? ⟨w.heap.size + 1, 0, none⟩ = some (.bool v) ∧ w'.cell? ⟨w.heap.size + 1, 1, none⟩ = some (.bool s)) (first | (refine ⟨?_, ?_, ?_, ?_⟩ <;> (go_simp; done)) | go_keep)
    (first | (go_at_call 34; refine (with_c _ _ _ h _).mono ?_; rintro _ _ ⟨rfl, rfl⟩))
  go_wp2
  refine bodyPost_ret (v := TB _ _) (by simp [results, Tryd.results26, go_sem] <;> first | done | rfl | exact dec_eq Iff.rfl) rfl ⟨rfl, by go_grown⟩

set_option maxHeartbeats 400000 in
theorem put_out (x t : BitVec 8) (i : Int) (v s : Bool) (h : i < 0 ∨ 7 < i) (w : World) : Calls Tryd.prog 26 #[TB x t, .int .i64 i, TBit v s] w fun e w' => e = .returned (TB x t) ∧ Below w.heap.size w w' := by
  go_enter Tryd.func26, Tryd.ntmps26
  go_wp2_with (go_at_call 32; refine (isPlace_out i h _).mono ?_; rintro _ _ ⟨rfl, rfl⟩)
  refine bodyPost_ret (v := TB _ _) (by simp [results, Tryd.results26, go_sem] <;> first | done | rfl | exact dec_eq Iff.rfl) rfl ⟨rfl, by go_grown⟩

end Go.Proofs.YtdpoonmgailonaaDoor
