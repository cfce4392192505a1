/-
  Layer 5, the program: the number that bytes are, the lowest one first.
  Layer 5, the program: the line that bytes begin with, at an address.
  Layer 5, the program: Read, one contract.
-/
import Derived.Test.YtpjpoopgafcedaaGreatDoorSame
import Derived.Test.YtpjpoopgafcedaaGreatDoorReadAll
import Derived.Laws.Bits64b
import Derived.Test.YtpjpoopgafcedaaGreatDoorBytp
set_option linter.unusedSimpArgs false
set_option linter.unusedVariables false
namespace Go.Proofs.YtpjpoopgafcedaaGreatDoor
open Go.RowKit Go.PlainAid Go.Joins

theorem or_i64_nat (a b : Nat) (ha : a < 65536) (hb : b < 65536) : bits .or .i64 (a : Int) (b : Int) = ((a ||| b : Nat) : Int) := by
  have hx : a ||| b < 2 ^ 16 := Nat.or_lt_two_pow (by omega) (by omega)
  have h1 : (BitVec.ofInt 64 (a : Int)).toNat = a := by
    rw [BitVec.ofInt_natCast, BitVec.toNat_ofNat]; exact Nat.mod_eq_of_lt (by omega)
  have h2 : (BitVec.ofInt 64 (b : Int)).toNat = b := by
    rw [BitVec.ofInt_natCast, BitVec.toNat_ofNat]; exact Nat.mod_eq_of_lt (by omega)
  show IntKind.i64.wrap ((BitVec.ofInt 64 (a : Int) ||| BitVec.ofInt 64 (b : Int)).toNat : Int) = _
  rw [BitVec.toNat_or, h1, h2]
  exact IntWalk.i64_in _ (by omega)
theorem or_zero (x : Int) (h0 : 0 ≤ x) (h1 : x < 256) : bits .or .i64 0 x = x := by
  obtain ⟨n, rfl⟩ : ∃ n : Nat, x = n := ⟨x.toNat, by omega⟩
  have := or_i64_nat 0 n (by omega) (by omega)
  rw [Nat.zero_or] at this
  exact this
theorem or_high (x y : Int) (h0 : 0 ≤ x) (h1 : x < 256) (h2 : 0 ≤ y) (h3 : y < 256) : bits .or .i64 x (y * 256) = x + 256 * y := by
  obtain ⟨n, rfl⟩ : ∃ n : Nat, x = n := ⟨x.toNat, by omega⟩
  obtain ⟨m, rfl⟩ : ∃ m : Nat, y = m := ⟨y.toNat, by omega⟩
  have e : n ||| (m * 256) = m * 256 + n := by
    have := Nat.shiftLeft_add_eq_or_of_lt (show n < 2 ^ 8 by omega) m
    rw [Nat.shiftLeft_eq] at this
    rw [Nat.or_comm]
    exact this.symm
  have := or_i64_nat n (m * 256) (by omega) (by omega)
  rw [e] at this
  rw [show ((m : Int) * 256) = ((m * 256 : Nat) : Int) by omega, this]
  omega
/-- The number of at most two bytes. -/
def valL : List Int → Int
  | [] => 0
  | [x] => x
  | x :: y :: _ => x + 256 * y
end Go.Proofs.YtpjpoopgafcedaaGreatDoor
set_option linter.unusedSimpArgs false
set_option linter.unusedVariables false
namespace Go.Proofs.YtpjpoopgafcedaaGreatDoor
open Go.RowKit Go.PlainAid Go.Joins

/-- A slice that holds bytes, and has the room that it says. -/
def HoldsC (w : World) (v : Value) (l : List Int) : Prop := Holds w v l ∧ ∀ p n c, v = .slice p n c → n ≤ c
theorem HoldsC.below {w u : World} {v : Value} {l : List Int} (h : HoldsC w v l) (hb : Below w.heap.size w u) : HoldsC u v l := ⟨h.1.below hb, h.2⟩
theorem holdsC_own {w : World} {base : Nat} {v : Value} {l : List Int} (h : w.ownsRow base 5 1 v l.length (l.map (Value.int .u8))) : HoldsC w v l := by
  refine ⟨holds_own h, fun p n c e => ?_⟩
  rcases h.2 with ⟨h1, h2⟩ | ⟨g, cap, cur, h1, _, _, hn, _⟩
  · rw [h1] at e; cases e; omega
  · rw [h1] at e; cases e; exact hn
/-- How a call ends that answers a line, how many bytes it took, and an error. -/
def ReadEndP (w : World) (o n k E : Int) : Ending → World → Prop := fun e w' =>
  e = .returned (.tuple #[.agg #[.int .u8 o, .int .i64 n], .int .i64 k, .int .i64 E]) ∧ Below w.heap.size w w'
theorem i8_bounds (x : Int) : -128 ≤ IntKind.i8.wrap x ∧ IntKind.i8.wrap x ≤ 127 := by
  have h : IntKind.i8.wrap x = if x % 256 ≥ 128 then x % 256 - 256 else x % 256 := by simp [IntKind.wrap, IntKind.bits, IntKind.signed]
  rw [h]
  split <;> omega
theorem slice_one (g o n c M : Nat) (h : M + 1 ≤ c) (W : World) : (Instr.slice 23 (.slice (some ⟨g, o, none⟩) n c) (some (.int .i64 1)) (some (.int .i64 ((M + 1 : Nat) : Int))) none).run Tryz.prog W = .ok (.slice (some ⟨g, if c = 1 then o else o + 1, none⟩) M (c - 1)) W := by
  have e2 : (sizeOf (Tryz.prog.elem 23)).run Tryz.prog W = .ok 1 W := by kernel_rfl
  rw [run_slice_lh (t := 23) (ht := by kernel_rfl) (h0 := by omega) (h1 := by omega) (h2 := by omega), e2]
  show Result.ok (Go.sliced (some ⟨g, o, none⟩) 1 (M + 1) c 1) W = _
  unfold Go.sliced
  by_cases hc : c = 1
  · subst hc
    have : M = 0 := by omega
    subst this
    simp
  · simp [hc, Addr.add_lit]
theorem holds_rest {w : World} {g o c : Nat} {l : List Int} (hv : Holds w (.slice (some ⟨g, o, none⟩) l.length c) l) (M : Nat) (hM : M + 1 ≤ l.length) (hc : l.length ≤ c) : Holds w (.slice (some ⟨g, if c = 1 then o else o + 1, none⟩) M (c - 1)) ((l.drop 1).take M) := by
  have hlen : ((l.drop 1).take M).length = M := by rw [List.length_take, List.length_drop]; omega
  refine .inr ⟨g, _, c - 1, by rw [hlen], fun j x hx => ?_⟩
  have hj : j < M := by
    have := (List.getElem?_eq_some_iff.1 hx).1
    omega
  rw [List.getElem?_take, if_pos hj, List.getElem?_drop] at hx
  rw [if_neg (by omega)]
  have := (hv.at).2 (1 + j) x hx
  rw [show o + 1 + j = o + (1 + j) by omega]
  exact this
end Go.Proofs.YtpjpoopgafcedaaGreatDoor
set_option linter.unusedSimpArgs false
set_option linter.unusedVariables false
namespace Go.Proofs.YtpjpoopgafcedaaGreatDoor
open Go.RowKit Go.PlainAid Go.Joins

theorem i8_byte (x : Int) (h0 : 0 ≤ x) (h1 : x < 256) : IntKind.i8.wrap x = if x ≤ 127 then x else x - 256 := by
  have h : IntKind.i8.wrap x = if x % 256 ≥ 128 then x % 256 - 256 else x % 256 := by simp [IntKind.wrap, IntKind.bits, IntKind.signed]
  rw [h]
  split <;> split <;> omega
theorem len_dg : ∀ m : Fin 13, (lenR (m.val : Int) = 1 ∧ dgP m.val = 0 ∧ m.val ≠ 12) ∨ (lenR (m.val : Int) = 2 ∧ dgP m.val = 2 ∧ m.val ≠ 12) ∨ (lenR (m.val : Int) = 2 ∧ dgP m.val = 4 ∧ m.val = 12) ∨ (lenR (m.val : Int) = 3 ∧ dgP m.val = 4 ∧ m.val ≠ 12) := by decide +kernel
theorem rest_one (l : List Int) (h : 2 ≤ l.length) : valL ((l.drop 1).take 1) = l.getD 1 0 := by
  match l, h with
  | x :: y :: r, _ => rfl
theorem rest_two (l : List Int) (h : 3 ≤ l.length) : valL ((l.drop 1).take 2) = l.getD 1 0 + 256 * l.getD 2 0 := by
  match l, h with
  | x :: y :: z :: r, _ => rfl
end Go.Proofs.YtpjpoopgafcedaaGreatDoor
