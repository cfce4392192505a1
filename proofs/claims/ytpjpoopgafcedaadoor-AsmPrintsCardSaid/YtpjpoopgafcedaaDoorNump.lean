/-
  Layer 5, the program: the number that bytes are, the lowest one first.
-/
import Derived.Test.YtpjpoopgafcedaaDoorSame
import Derived.Test.YtpjpoopgafcedaaDoorReadAll
import Derived.Laws.Bits64b
set_option linter.unusedSimpArgs false
set_option linter.unusedVariables false
namespace Go.Proofs.YtpjpoopgafcedaaDoor
open Go.RowKit Go.PlainAid Go.Joins

theorem or_i64_nat (a b : Nat) (ha : a < 65536) (hb : b < 65536) : bits .or .i64 (a : Int) (b : Int) = ((a ||| b : Nat) : Int) := by
  have hx : a ||| b < 2 ^ 16 := Nat.or_lt_two_pow (by omega) (by omega)
  have h1 : (BitVec.ofInt 64 (a : Int)).toNat = a := by
    rw [BitVec.ofInt_natCast, BitVec.toNat_ofNat]; exact Nat.mod_eq_of_lt (by omega)
  have h2 : (BitVec.ofInt 64 (b : Int)).toNat = b := by
    rw [BitVec.ofInt_natCast, BitVec.toNat_ofNat]; exact Nat.mod_eq_of_lt (by omega)
  show IntKind.i64.wrap ((BitVec.ofInt 64 (a : Int) ||| BitVec.ofInt 64 (b : Int)).toNat : Int) = _
  rw [BitVec.toNat_or, h1, h2]
  exact IntWalk.i64_in _ (by omega)
theorem or_zero (x : Int) (h0 : 0 ≤ x) (h1 : x < 256) : bits .or .i64 0 x = x := by
  obtain ⟨n, rfl⟩ : ∃ n : Nat, x = n := ⟨x.toNat, by omega⟩
  have := or_i64_nat 0 n (by omega) (by omega)
  rw [Nat.zero_or] at this
  exact this
theorem or_high (x y : Int) (h0 : 0 ≤ x) (h1 : x < 256) (h2 : 0 ≤ y) (h3 : y < 256) : bits .or .i64 x (y * 256) = x + 256 * y := by
  obtain ⟨n, rfl⟩ : ∃ n : Nat, x = n := ⟨x.toNat, by omega⟩
  obtain ⟨m, rfl⟩ : ∃ m : Nat, y = m := ⟨y.toNat, by omega⟩
  have e : n ||| (m * 256) = m * 256 + n := by
    have := Nat.shiftLeft_add_eq_or_of_lt (show n < 2 ^ 8 by omega) m
    rw [Nat.shiftLeft_eq] at this
    rw [Nat.or_comm]
    exact this.symm
  have := or_i64_nat n (m * 256) (by omega) (by omega)
  rw [e] at this
  rw [show ((m : Int) * 256) = ((m * 256 : Nat) : Int) by omega, this]
  omega
/-- The number of at most two bytes. -/
def valL : List Int → Int
  | [] => 0
  | [x] => x
  | x :: y :: _ => x + 256 * y
set_option maxRecDepth 100000 in
set_option maxHeartbeats 1000000 in
theorem nump_c (l : List Int) (hl : l.length ≤ 2) (hb : ∀ x ∈ l, 0 ≤ x ∧ x < 256) (v : Value) (w : World) (hv : Holds w v l) :
    Calls Tryd.prog 41 #[v] w fun e w' => e = .returned (.int .i64 (valL l)) ∧ w = w' := by
  obtain ⟨p, c, rfl, H⟩ := hv.form
  clear hv
  have HH := Lib.hid H
  have HB := Lib.hid hb
  have HL := Lib.hid hl
  clear H hb
  go_enter Tryd.func41, Tryd.ntmps41
  go_wp2
  go_loopw [3, 7] (fun n i wr => ∃ (j : Nat) (J N : Int), j ≤ l.length ∧ i = .int .i64 J ∧ n = .int .i64 N ∧ Hid (J = j ∧ N = valL (l.take j)) ∧ w = wr) (fun _ i _ => l.length - (intOf i).toNat)
  case atStart => exact ⟨0, 0, 0, by omega, rfl, rfl, Lib.hid ⟨rfl, rfl⟩, rfl⟩
  case round =>
    obtain ⟨j, J, N, hj, rfl, rfl, HJ, rfl⟩ := hrel
    obtain ⟨hJ, hN⟩ := HJ.out
    by_cases hlt : j < l.length
    · have hd : decide (J < (l.length : Int)) = true := decide_eq_true (by omega)
      have hx := getElem_pair hlt
      obtain ⟨g, o, rfl, hc⟩ := HH.out j _ hx
      have hb1 := HB.out _ (List.getElem_mem hlt)
      have hj2 : J = 0 ∧ j = 0 ∨ J = 1 ∧ j = 1 := by have := HL.out; omega
      rcases hj2 with ⟨rfl, rfl⟩ | ⟨rfl, rfl⟩
      · have hz : N = 0 := by rw [hN]; rfl
        have hV : valL (l.take 1) = l[0] := by
          match l, hlt with
          | x :: r, _ => rfl
        have h01 : (0 : Int) < (l.length : Int) := by omega
        generalize l[0] = X at *
        have o1 := or_zero X hb1.1 hb1.2
        have w1 : IntKind.i64.wrap X = X := IntWalk.i64_in _ (by omega)
        subst hz
        have HV := Lib.hid hV
        clear hV hN hx HJ hJ
        simp only [Nat.add_zero] at hc
        go_wp2
        go_roundw
        case rel => exact ⟨1, 1, X, by omega, rfl, rfl, Lib.hid ⟨rfl, HV.out.symm⟩, trivial⟩
        case measure => simp [intOf]; omega
      · obtain ⟨x, y, hxy⟩ : ∃ x y, l = [x, y] := by
          have := HL.out
          match l, hlt, this with
          | [x, y], _, _ => exact ⟨x, y, rfl⟩
        subst hxy
        have hz : N = x := by rw [hN]; rfl
        have hb0 := HB.out x (by simp)
        have o1 := or_high x y hb0.1 hb0.2 hb1.1 hb1.2
        have w1 : IntKind.i64.wrap (y * 256) = y * 256 := IntWalk.i64_in _ (by have := hb1.1; have := hb1.2; simp at *; omega)
        have w2 : IntKind.i64.wrap y = y := IntWalk.i64_in _ (by have := hb1.1; have := hb1.2; simp at *; omega)
        subst hz
        clear hN hx HJ hJ
        simp only [List.getElem_cons_succ, List.getElem_cons_zero] at hc hb1
        go_wp2
        go_roundw
        case rel => exact ⟨2, 2, N + 256 * y, by simp, rfl, by go_num, Lib.hid ⟨rfl, rfl⟩, trivial⟩
        case measure => simp [intOf]
    · have hjm : j = l.length := by omega
      have hd : decide (J < (l.length : Int)) = false := decide_eq_false (by omega)
      rw [hjm, List.take_length] at hN
      have HV := Lib.hid hN
      clear hN hJ HJ
      go_wp2
      go_ret
      exact ⟨ret_i64 (by rw [HV.out]), rfl⟩
end Go.Proofs.YtpjpoopgafcedaaDoor
