/-
  Whole numbers as doubles, a zero of either sign: sums and products of complex ones.
-/
import Derived.Test.YtkabpnchfhkhgaaPlain12
set_option linter.unusedSimpArgs false
set_option linter.unusedVariables false
namespace Go.Proofs.Ytkabpnchfhkhgaa
open Go.RowKit Go.PlainAid

/-- It stands for n; where n is 0 it may be a 0 below 0. -/
def ZW (n : Int) (P : Nat) : Prop := ∃ s, P = fz s n 0 ∧ Fine s n 0
theorem zw_zF {n : Int} (h : n.natAbs < 2 ^ 53) : ZW n (zF n) := ⟨_, rfl, zF_fine h⟩
theorem ZW.small {n : Int} {P : Nat} (h : ZW n P) : n.natAbs < 2 ^ 53 := by obtain ⟨s, _, h⟩ := h; exact h.n
theorem ZW.add {m n : Int} {P Q : Nat} (h1 : ZW m P) (h2 : ZW n Q) (hb : (m + n).natAbs < 2 ^ 53) : ∃ R, floatBits .add .f64 P Q = some R ∧ ZW (m + n) R := by
  obtain ⟨s, rfl, f1⟩ := h1
  obtain ⟨t, rfl, f2⟩ := h2
  exact ⟨_, fz_add f1 f2 hb, _, rfl, ⟨fun h => by rw [if_neg h], hb, by omega⟩⟩
theorem ZW.sub {m n : Int} {P Q : Nat} (h1 : ZW m P) (h2 : ZW n Q) (hb : (m - n).natAbs < 2 ^ 53) : ∃ R, floatBits .sub .f64 P Q = some R ∧ ZW (m - n) R := by
  obtain ⟨s, rfl, f1⟩ := h1
  obtain ⟨t, rfl, f2⟩ := h2
  exact ⟨_, fz_sub f1 f2 hb, _, rfl, ⟨fun h => by rw [if_neg h], hb, by omega⟩⟩
theorem sign_mul {m n : Int} {s t : Bool} (h1 : m ≠ 0 → s = decide (m < 0)) (h2 : n ≠ 0 → t = decide (n < 0)) (h : m * n ≠ 0) : (s ^^ t) = decide (m * n < 0) := by
  have hm : m ≠ 0 := fun e => h (by rw [e, Int.zero_mul])
  have hn : n ≠ 0 := fun e => h (by rw [e, Int.mul_zero])
  rw [h1 hm, h2 hn]
  rcases Int.lt_or_gt_of_ne hm with a | a <;> rcases Int.lt_or_gt_of_ne hn with b | b
  · have := Int.mul_pos_of_neg_of_neg a b
    rw [decide_eq_true a, decide_eq_true b, decide_eq_false (by omega)]; rfl
  · have := Int.mul_neg_of_neg_of_pos a b
    rw [decide_eq_true a, decide_eq_false (by omega), decide_eq_true this]; rfl
  · have := Int.mul_neg_of_pos_of_neg a b
    rw [decide_eq_false (by omega), decide_eq_true b, decide_eq_true this]; rfl
  · have := Int.mul_pos a b
    rw [decide_eq_false (by omega), decide_eq_false (by omega), decide_eq_false (by omega)]; rfl
theorem ZW.mul {m n : Int} {P Q : Nat} (h1 : ZW m P) (h2 : ZW n Q) (hb : (m * n).natAbs < 2 ^ 53) : ∃ R, floatBits .mul .f64 P Q = some R ∧ ZW (m * n) R := by
  obtain ⟨s, rfl, f1⟩ := h1
  obtain ⟨t, rfl, f2⟩ := h2
  exact ⟨_, fz_mul f1 f2 hb (by omega), _, rfl, ⟨fun h => sign_mul f1.s f2.s h, hb, by omega⟩⟩
theorem store_cplx (P : Program) (k : FloatKind) (x y : Nat) (a : Addr) (m : Mode) (W : World) : (store a (.complex k x y) m).run P W = stored P W a (.complex k x y) m := run_store P W a _ m rfl
theorem store_flt (P : Program) (k : FloatKind) (x : Nat) (a : Addr) (m : Mode) (W : World) : (store a (.float k x) m).run P W = stored P W a (.float k x) m := run_store P W a _ m rfl
/-- A sum of complex ones. -/
theorem zw_csum {a b c d : Int} {A B C D : Nat} (ha : ZW a A) (hb : ZW b B) (hc : ZW c C) (hd : ZW d D) (h1 : (a + c).natAbs < 2 ^ 53) (h2 : (b + d).natAbs < 2 ^ 53) :
    ∃ R I, cSumBits .add .f64 A B C D = some (R, I) ∧ ZW (a + c) R ∧ ZW (b + d) I := by
  obtain ⟨R, e1, r1⟩ := ha.add hc h1
  obtain ⟨I, e2, r2⟩ := hb.add hd h2
  exact ⟨R, I, by unfold cSumBits; rw [e1, e2]; rfl, r1, r2⟩
/-- A product of complex ones. -/
theorem zw_cmul {a b c d : Int} {A B C D : Nat} (ha : ZW a A) (hb : ZW b B) (hc : ZW c C) (hd : ZW d D) (h1 : (a * c).natAbs < 2 ^ 53) (h2 : (b * d).natAbs < 2 ^ 53) (h3 : (a * d).natAbs < 2 ^ 53) (h4 : (b * c).natAbs < 2 ^ 53) (h5 : (a * c - b * d).natAbs < 2 ^ 53) (h6 : (a * d + b * c).natAbs < 2 ^ 53) :
    ∃ R I, cMulBits A B C D = some (R, I) ∧ ZW (a * c - b * d) R ∧ ZW (a * d + b * c) I := by
  obtain ⟨p1, e1, r1⟩ := ha.mul hc h1
  obtain ⟨p2, e2, r2⟩ := hb.mul hd h2
  obtain ⟨p3, e3, r3⟩ := ha.mul hd h3
  obtain ⟨p4, e4, r4⟩ := hb.mul hc h4
  obtain ⟨R, e5, r5⟩ := r1.sub r2 h5
  obtain ⟨I, e6, r6⟩ := r3.add r4 h6
  refine ⟨R, I, ?_, r5, r6⟩
  unfold cMulBits
  rw [e1]
  simp only [Option.bind_some]
  rw [e2]
  simp only [Option.bind_some]
  rw [e5]
  simp only [Option.bind_some]
  rw [e3]
  simp only [Option.bind_some]
  rw [e4]
  simp only [Option.bind_some]
  rw [e6]
  rfl
theorem ZW.order {m n : Int} {P Q : Nat} (h1 : ZW m P) (h2 : ZW n Q) : FloatKind.f64.format.order P Q = some (compare m n) := by
  obtain ⟨s, rfl, f1⟩ := h1
  obtain ⟨t, rfl, f2⟩ := h2
  exact fz_order f1 f2
theorem ZW.eq {m n : Int} {P Q : Nat} (h1 : ZW m P) (h2 : ZW n Q) : (FloatKind.f64.format.order P Q == some .eq) = decide (m = n) := by
  rw [h1.order h2, Int.compare_eq_ite_lt]
  by_cases h : m = n
  · subst h; simp
  · rw [decide_eq_false h]
    rcases Int.lt_or_gt_of_ne h with h3 | h3
    · rw [if_pos h3]; rfl
    · rw [if_neg (by omega), if_pos h3]; rfl
theorem ZW.ne {m n : Int} {P Q : Nat} (h1 : ZW m P) (h2 : ZW n Q) : (FloatKind.f64.format.order P Q != some .eq) = decide (m ≠ n) := by
  have := h1.eq h2
  unfold bne
  rw [this]
  by_cases h : m = n <;> simp [h]
theorem ZW.geq {m n : Int} {P Q : Nat} (h1 : ZW m P) (h2 : ZW n Q) : (FloatKind.f64.format.order P Q == some .gt || FloatKind.f64.format.order P Q == some .eq) = decide (n ≤ m) := by
  rw [h1.order h2, Int.compare_eq_ite_lt]
  by_cases a : m < n
  · rw [if_pos a, decide_eq_false (by omega)]; rfl
  · rw [if_neg a, decide_eq_true (by omega)]
    by_cases b : n < m
    · rw [if_pos b]; rfl
    · rw [if_neg b]; rfl
theorem ZW.leq {m n : Int} {P Q : Nat} (h1 : ZW m P) (h2 : ZW n Q) : (FloatKind.f64.format.order P Q == some .lt || FloatKind.f64.format.order P Q == some .eq) = decide (m ≤ n) := by
  rw [h1.order h2, Int.compare_eq_ite_lt]
  by_cases a : m < n
  · rw [if_pos a, decide_eq_true (by omega)]; rfl
  · rw [if_neg a]
    by_cases b : n < m
    · rw [if_pos b, decide_eq_false (by omega)]; rfl
    · rw [if_neg b, decide_eq_true (by omega)]; rfl
theorem ZW.lss {m n : Int} {P Q : Nat} (h1 : ZW m P) (h2 : ZW n Q) : (FloatKind.f64.format.order P Q == some .lt) = decide (m < n) := by
  rw [h1.order h2, Int.compare_eq_ite_lt]
  by_cases a : m < n
  · rw [if_pos a, decide_eq_true a]; rfl
  · rw [if_neg a, decide_eq_false a]
    by_cases b : n < m
    · rw [if_pos b]; rfl
    · rw [if_neg b]; rfl
theorem ZW.gtr {m n : Int} {P Q : Nat} (h1 : ZW m P) (h2 : ZW n Q) : (FloatKind.f64.format.order P Q == some .gt) = decide (n < m) := by
  rw [h1.order h2, Int.compare_eq_ite_lt]
  by_cases a : m < n
  · rw [if_pos a, decide_eq_false (by omega)]; rfl
  · rw [if_neg a]
    by_cases b : n < m
    · rw [if_pos b, decide_eq_true b]; rfl
    · rw [if_neg b, decide_eq_false b]; rfl
/-- Cut to an integer. -/
theorem ZW.int {n : Int} {P : Nat} (h : ZW n P) (W : World) : (convert 46 3 (.float .f64 P)).run Try.prog W = .ok (.int .i64 n) W := by
  obtain ⟨s, rfl, f⟩ := h
  refine run_convert_float_int W 46 3 .f64 .i64 _ n (by kernel_rfl) (by kernel_rfl) ?_
  have hn := f.n
  unfold floatToIntVal
  rw [fz_int f]
  dsimp only
  rw [if_pos]
  have e1 : IntKind.i64.min = -9223372036854775808 := by decide
  have e2 : IntKind.i64.max = 9223372036854775807 := by decide
  rw [e1, e2]
  rw [p53] at hn
  omega
end Go.Proofs.Ytkabpnchfhkhgaa
