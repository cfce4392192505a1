/-
  Doubles that are no whole number near 0: great ones, rounded or not; eighths.
  math.Trunc of doubles that are exact: cut towards 0.
-/
import Derived.Test.YtcnejgilmciljaaDoorCplx12
import Derived.Laws.Externs
set_option linter.unusedSimpArgs false
set_option linter.unusedVariables false
set_option maxRecDepth 20000
namespace Go.Proofs.YtcnejgilmciljaaDoor
open Go.RowKit Go.PlainAid

/-- A great double: 2^53 or more, or as far below 0. -/
def Big (s : Bool) (P : Nat) : Prop := ∃ f e : Nat, Ieee.double.read P = .number s f (e : Int) ∧ 2 ^ 52 ≤ f ∧ f < 2 ^ 53 ∧ 1 ≤ e ∧ e ≤ 12
theorem cut_bit (neg : Bool) (x d : Nat) (h : d ≤ x.log2 + 2) : Ieee.Toward.even.cut neg x d = x / 2 ^ d ∨ Ieee.Toward.even.cut neg x d = x / 2 ^ d + 1 := by
  unfold Ieee.Toward.cut
  dsimp only
  rw [Nat.min_eq_left h, Nat.shiftLeft_eq, Nat.one_mul]
  generalize (decide (2 ^ d < 2 * (x % 2 ^ d)) || 2 ^ d == 2 * (x % 2 ^ d) && x / 2 ^ d % 2 == 1) = b
  cases b
  · exact .inl rfl
  · exact .inr rfl
theorem nearest_big (neg : Bool) {m : Nat} (h : 2 ^ 53 ≤ m) (h2 : m < 2 ^ 64) : Big neg (Ieee.double.nearest neg m 0) := by
  have h0 : m ≠ 0 := by have := Nat.two_pow_pos 53; omega
  have hl1 : 53 ≤ m.log2 := (Nat.le_log2 h0).2 h
  have hl2 : m.log2 < 64 := (Nat.log2_lt h0).2 h2
  have s1 := Nat.log2_self_le h0
  have s2 := (Nat.log2_lt h0).1 (Nat.lt_succ_self m.log2)
  obtain ⟨d, hd⟩ : ∃ d, m.log2 = 52 + d := ⟨m.log2 - 52, by omega⟩
  have hc := cut_bit neg m d (by omega)
  have hlo : 2 ^ 52 ≤ m / 2 ^ d := (Nat.le_div_iff_mul_le (Nat.two_pow_pos _)).2 (by rw [← Nat.pow_add, ← hd]; exact s1)
  have hhi : m / 2 ^ d < 2 ^ 53 := (Nat.div_lt_iff_lt_mul (Nat.two_pow_pos _)).2 (by rw [← Nat.pow_add, show 53 + d = m.log2 + 1 by omega]; exact s2)
  unfold Big Ieee.Format.nearest
  rw [if_neg h0]
  dsimp only
  rw [dbl_least, dbl_binade, dbl_inf, show (Ieee.double.fractionBits : Int) = 52 from rfl]
  have hlast : max ((0 : Int) + ((m.log2 : Nat) : Int) - 52) (-1074) = (d : Int) := by omega
  rw [hlast, show ((0 : Int) - (d : Int)).toNat = 0 by omega, show ((d : Int) - 0).toNat = d by omega, Nat.shiftLeft_zero, show ((d : Int) - -1074).toNat = d + 1074 by omega]
  obtain ⟨K, hK⟩ : ∃ K, Ieee.Toward.even.cut neg m d = K := ⟨_, rfl⟩
  rw [hK] at hc ⊢
  generalize m / 2 ^ d = q at *
  have hmin : min ((d + 1074) * 2 ^ 52 + K) (2047 * 2 ^ 52) = (d + 1074) * 2 ^ 52 + K := by
    rw [p52] at *
    rw [p53] at hhi
    omega
  rw [hmin]
  by_cases hb : K < 2 ^ 53
  · have e : (d + 1074) * 2 ^ 52 + K = (d + 1075) * 2 ^ 52 + (K - 2 ^ 52) := by rw [p52] at *; omega
    rw [e]
    refine ⟨K, d, ?_, ?_, hb, by omega, by omega⟩
    · refine (read_word neg _ _ (by omega) (by omega) (by rw [p53] at hb; rw [p52]; omega)).trans ?_
      have e1 : 2 ^ 52 + (K - 2 ^ 52) = K := by rw [p52] at *; omega
      rw [e1]
      exact congrArg (Ieee.Datum.number neg K) (by omega)
    · rw [p52] at *; omega
  · have e : (d + 1074) * 2 ^ 52 + K = (d + 1076) * 2 ^ 52 + 0 := by rw [p52] at *; rw [p53] at *; omega
    rw [e]
    refine ⟨2 ^ 52, d + 1, ?_, Nat.le_refl _, by decide, by omega, by omega⟩
    refine (read_word neg _ _ (by omega) (by omega) (Nat.two_pow_pos _)).trans ?_
    rw [Nat.add_zero]
    exact congrArg (Ieee.Datum.number neg (2 ^ 52)) (by omega)
theorem zF_big {n : Int} (h : 2 ^ 53 ≤ n.natAbs) (h2 : n.natAbs < 2 ^ 64) : Big (decide (n < 0)) (zF n) := nearest_big _ h h2
theorem signed_big {s : Bool} {f u : Nat} : Ieee.signed s f u = if s then -((f * 2 ^ u : Nat) : Int) else ((f * 2 ^ u : Nat) : Int) := by
  unfold Ieee.signed
  rw [Nat.shiftLeft_eq]
theorem cmp_lt {a b : Int} (h : a < b) : compare a b = .lt ∧ compare b a = .gt := by
  rw [Int.compare_eq_ite_lt, Int.compare_eq_ite_lt, if_pos h, if_neg (by omega), if_pos h]
  exact ⟨rfl, rfl⟩
theorem big_order {s t : Bool} {P k : Nat} {n : Int} (h : Big s P) (hn : Fine t n k) :
    FloatKind.f64.format.order P (fz t n k) = some (if s then .lt else .gt) ∧ FloatKind.f64.format.order (fz t n k) P = some (if s then .gt else .lt) := by
  obtain ⟨f, e, hr, hf, hf2, he, he2⟩ := h
  show (Ieee.double.read P).order (Ieee.double.read (fz t n k)) = _ ∧ (Ieee.double.read (fz t n k)).order (Ieee.double.read P) = _
  rw [hr, read_fz hn]
  simp only [Ieee.Datum.order]
  generalize more n k = a
  have b1 : min ((e : Nat) : Int) (-((k + a : Nat) : Int)) = -((k + a : Nat) : Int) := by omega
  have b2 : min (-((k + a : Nat) : Int)) ((e : Nat) : Int) = -((k + a : Nat) : Int) := by omega
  rw [b1, b2, show (((e : Nat) : Int) - -((k + a : Nat) : Int)).toNat = e + k + a by omega, show (-((k + a : Nat) : Int) - -((k + a : Nat) : Int)).toNat = 0 by omega, signed_fz hn.s, signed_big, Nat.add_zero]
  have hp : (n * 2 ^ a).natAbs < f * 2 ^ (e + k + a) := by
    rw [natAbs_shift]
    have h1 : n.natAbs * 2 ^ a < 2 ^ 53 * 2 ^ a := Nat.mul_lt_mul_of_pos_right hn.n (Nat.two_pow_pos _)
    have h3 : 2 ^ 52 * 2 ^ (1 + a) ≤ f * 2 ^ (e + k + a) := Nat.mul_le_mul hf (Nat.pow_le_pow_right (by decide) (by omega))
    have h4 : 2 ^ 53 * 2 ^ a = 2 ^ 52 * 2 ^ (1 + a) := by rw [← Nat.pow_add, ← Nat.pow_add]; congr 1; omega
    rw [h4] at h1
    exact Nat.lt_of_lt_of_le h1 h3
  generalize f * 2 ^ (e + k + a) = M at *
  generalize n * 2 ^ a = N at *
  cases s
  · rw [if_neg (by simp), if_neg (by simp), if_neg (by simp), Int.compare_eq_ite_lt, Int.compare_eq_ite_lt, if_neg (by omega), if_pos (by omega), if_pos (by omega)]
    exact ⟨rfl, rfl⟩
  · rw [if_pos rfl, if_pos rfl, if_pos rfl, Int.compare_eq_ite_lt, Int.compare_eq_ite_lt, if_pos (by omega), if_neg (by omega), if_pos (by omega)]
    exact ⟨rfl, rfl⟩
/-- Far from 0: how it stands to whole numbers up to 2^40. -/
def Far (s : Bool) (P : Nat) : Prop := ∀ (n : Int) (Q : Nat), ZW n Q → n.natAbs ≤ 1099511627776 → FloatKind.f64.format.order P Q = some (if s then .lt else .gt) ∧ FloatKind.f64.format.order Q P = some (if s then .gt else .lt)
theorem zF_far {x : Int} (h : 1099511627776 < x.natAbs) (h2 : x.natAbs ≤ 9223372036854775808) : Far (decide (x < 0)) (zF x) := by
  rintro n Q hz hn
  by_cases hb : x.natAbs < 2 ^ 53
  · have z := zw_zF hb
    rw [z.order hz, hz.order z]
    by_cases hx : x < 0
    · have c := cmp_lt (a := x) (b := n) (by omega)
      rw [decide_eq_true hx, c.1, c.2]; exact ⟨rfl, rfl⟩
    · have c := cmp_lt (a := n) (b := x) (by omega)
      rw [decide_eq_false hx, c.1, c.2]; exact ⟨rfl, rfl⟩
  · obtain ⟨t, rfl, hf⟩ := hz
    exact big_order (zF_big (by omega) (by rw [show (2 : Nat) ^ 64 = 18446744073709551616 by decide]; omega)) hf
theorem Far.geq {s : Bool} {P n Q} (h : Far s P) (hz : ZW n Q) (hn : n.natAbs ≤ 1099511627776) : (FloatKind.f64.format.order P Q == some .gt || FloatKind.f64.format.order P Q == some .eq) = !s := by
  rw [(h n Q hz hn).1]; cases s <;> rfl
theorem Far.leq {s : Bool} {P n Q} (h : Far s P) (hz : ZW n Q) (hn : n.natAbs ≤ 1099511627776) : (FloatKind.f64.format.order P Q == some .lt || FloatKind.f64.format.order P Q == some .eq) = s := by
  rw [(h n Q hz hn).1]; cases s <;> rfl
theorem Far.lss {s : Bool} {P n Q} (h : Far s P) (hz : ZW n Q) (hn : n.natAbs ≤ 1099511627776) : (FloatKind.f64.format.order P Q == some .lt) = s := by
  rw [(h n Q hz hn).1]; cases s <;> rfl
theorem Far.gtr {s : Bool} {P n Q} (h : Far s P) (hz : ZW n Q) (hn : n.natAbs ≤ 1099511627776) : (FloatKind.f64.format.order P Q == some .gt) = !s := by
  rw [(h n Q hz hn).1]; cases s <;> rfl
/-- Eighths: n of them, a double as it is. -/
def ZE (n : Int) (P : Nat) : Prop := ∃ s, P = fz s n 3 ∧ Fine s n 3
theorem zw_eighth {m : Int} {Q : Nat} (h : ZW m Q) (hm : m.natAbs ≤ 562949953421312) : ZE (8 * m) Q := by
  obtain ⟨s, rfl, hf⟩ := h
  refine ⟨s, ?_, ⟨fun h0 => ?_, by rw [p53]; omega, by omega⟩⟩
  · have := fz_shift s m 0 3 hf.n (by omega)
    rw [← this, show m * 2 ^ 3 = 8 * m by omega]
  · rw [hf.s (by omega)]
    exact decide_eq_decide.2 (by omega)
theorem ZE.order {m n : Int} {P Q : Nat} (h1 : ZE m P) (h2 : ZE n Q) : FloatKind.f64.format.order P Q = some (compare m n) := by
  obtain ⟨s, rfl, f1⟩ := h1
  obtain ⟨t, rfl, f2⟩ := h2
  exact fz_order f1 f2
theorem quo8 {p : Int} (hp : 0 ≤ p ∧ p ≤ 7) : floatBits .quo .f64 (zF p) 4620693217682128896 = some (fz false p 3) := by
  have : p = 0 ∨ p = 1 ∨ p = 2 ∨ p = 3 ∨ p = 4 ∨ p = 5 ∨ p = 6 ∨ p = 7 := by omega
  rcases this with rfl | rfl | rfl | rfl | rfl | rfl | rfl | rfl <;> decide +kernel
/-- A whole number and eighths. -/
theorem add8 {x p : Int} (hx : x.natAbs ≤ 1099511627776) (hp : 0 ≤ p ∧ p ≤ 7) : ∃ R, floatBits .add .f64 (zF x) (fz false p 3) = some R ∧ ZE (8 * x + p) R ∧ (p = 0 → R = zF x) := by
  have z := zw_eighth (zw_zF (n := x) (by rw [p53]; omega)) (by omega)
  obtain ⟨s, e, hf⟩ := z
  have f2 : Fine false p 3 := ⟨fun _ => (decide_eq_false (by omega)).symm, by rw [p53]; omega, by omega⟩
  have hb : (8 * x + p).natAbs < 2 ^ 53 := by rw [p53]; omega
  have := fz_add hf f2 hb
  rw [e]
  refine ⟨_, this, ⟨_, rfl, ⟨fun h0 => ?_, hb, by omega⟩⟩, fun h0 => ?_⟩
  · rw [if_neg h0]
  · subst h0
    rw [← e, Int.add_zero]
    unfold zF
    have := fz_shift (if 8 * x = 0 then s && false else decide (8 * x < 0)) x 0 3 (by rw [p53]; omega) (by omega)
    rw [show x * 2 ^ 3 = 8 * x by omega] at this
    rw [this]
    congr 1
    by_cases h : 8 * x = 0
    · rw [if_pos h, decide_eq_false (by omega)]; cases s <;> rfl
    · rw [if_neg h]; exact decide_eq_decide.2 (by omega)
theorem ZE.geq {n m : Int} {P Q : Nat} (h : ZE n P) (hz : ZW m Q) (hm : m.natAbs ≤ 562949953421312) : (FloatKind.f64.format.order P Q == some .gt || FloatKind.f64.format.order P Q == some .eq) = decide (8 * m ≤ n) := by
  rw [h.order (zw_eighth hz hm), Int.compare_eq_ite_lt]
  by_cases a : n < 8 * m
  · rw [if_pos a, decide_eq_false (by omega)]; rfl
  · rw [if_neg a, decide_eq_true (by omega)]
    by_cases b : 8 * m < n
    · rw [if_pos b]; rfl
    · rw [if_neg b]; rfl
theorem ZE.leq {n m : Int} {P Q : Nat} (h : ZE n P) (hz : ZW m Q) (hm : m.natAbs ≤ 562949953421312) : (FloatKind.f64.format.order P Q == some .lt || FloatKind.f64.format.order P Q == some .eq) = decide (n ≤ 8 * m) := by
  rw [h.order (zw_eighth hz hm), Int.compare_eq_ite_lt]
  by_cases a : n < 8 * m
  · rw [if_pos a, decide_eq_true (by omega)]; rfl
  · rw [if_neg a]
    by_cases b : 8 * m < n
    · rw [if_pos b, decide_eq_false (by omega)]; rfl
    · rw [if_neg b, decide_eq_true (by omega)]; rfl
/-- A fraction is no whole number. -/
theorem ZE.eq {n m : Int} {P Q : Nat} (h : ZE n P) (hz : ZW m Q) (hm : m.natAbs ≤ 562949953421312) (hn : n % 8 ≠ 0) : (FloatKind.f64.format.order P Q == some .eq) = false ∧ (FloatKind.f64.format.order Q P == some .eq) = false := by
  rw [h.order (zw_eighth hz hm), (zw_eighth hz hm).order h]
  have h0 : n < 8 * m ∨ 8 * m < n := by omega
  rcases h0 with h0 | h0
  · rw [(cmp_lt h0).1, (cmp_lt h0).2]; exact ⟨rfl, rfl⟩
  · rw [(cmp_lt h0).1, (cmp_lt h0).2]; exact ⟨rfl, rfl⟩
theorem ZE.ne {n m : Int} {P Q : Nat} (h : ZE n P) (hz : ZW m Q) (hm : m.natAbs ≤ 562949953421312) (hn : n % 8 ≠ 0) : (FloatKind.f64.format.order P Q != some .eq) = true ∧ (FloatKind.f64.format.order Q P != some .eq) = true := by
  have := h.eq hz hm hn
  unfold bne
  rw [this.1, this.2]
  exact ⟨rfl, rfl⟩
theorem ZE.int {n : Int} {P : Nat} (h : ZE n P) (W : World) : (convert 141 3 (.float .f64 P)).run Tryd.prog W = .ok (.int .i64 (n.tdiv 8)) W := by
  obtain ⟨s, rfl, f⟩ := h
  refine run_convert_float_int W 141 3 .f64 .i64 _ (n.tdiv 8) (by kernel_rfl) (by kernel_rfl) ?_
  have hn := f.n
  unfold floatToIntVal
  rw [fz_cut f]
  dsimp only
  rw [if_pos]
  · rfl
  · have e1 : IntKind.i64.min = -9223372036854775808 := by decide
    have e2 : IntKind.i64.max = 9223372036854775807 := by decide
    rw [e1, e2]
    rw [p53] at hn
    have h2 : (2 : Int) ^ 3 = 8 := by decide
    rw [h2]
    have hm := Int.mul_tdiv_add_tmod n 8
    have ht : -7 ≤ n.tmod 8 ∧ n.tmod 8 ≤ 7 := by
      rcases Int.lt_or_le n 0 with h | h
      · have e : n = -(-n) := by omega
        rw [e, Int.neg_tmod, Int.tmod_eq_emod_of_nonneg (by omega)]
        omega
      · rw [Int.tmod_eq_emod_of_nonneg h]
        omega
    omega
/-- No whole number near 0: far, or a fraction. -/
def Bad (P : Nat) : Prop := (∃ s, Far s P) ∨ ∃ n, ZE n P ∧ n % 8 ≠ 0 ∧ -8796093022208 ≤ n ∧ n ≤ 8796093022215
end Go.Proofs.YtcnejgilmciljaaDoor
set_option linter.unusedSimpArgs false
set_option linter.unusedVariables false
namespace Go.Proofs.YtcnejgilmciljaaDoor
open Go.RowKit Go.PlainAid

theorem entry_arr (x : Nat) {f : Nat → Sem Value} {g : Array Value → Sem Value} : Extern.MathFloor.toIntegral.match_2 (fun _ => Sem Value) #[.float .f64 x] f g = f x := rfl
theorem entry_num (nm : String) (way : Ieee.Toward) (x : Nat) (s m i) (h : FloatKind.f64.decode x = .number s m i) : Extern.MathFloor.toIntegral nm way #[.float .f64 x] = pure (.float .f64 (FloatKind.f64.encode (Ieee.Datum.integral way (.number s m i)))) := by
  unfold Extern.MathFloor.toIntegral
  rw [entry_arr, h]
theorem cut_pow (s : Bool) (N j k : Nat) : Ieee.Toward.zero.cut s (N * 2 ^ j) (k + j) = N / 2 ^ k := by
  have hd : ∀ N J : Nat, N * 2 ^ J / 2 ^ (k + J) = N / 2 ^ k := fun N J => by
    rw [Nat.pow_add, Nat.mul_comm (2 ^ k), ← Nat.div_div_eq_div_mul, Nat.mul_div_cancel _ (Nat.two_pow_pos _)]
  unfold Ieee.Toward.cut
  dsimp only
  by_cases hm : k + j ≤ (N * 2 ^ j).log2 + 2
  · rw [Nat.min_eq_left hm, Nat.shiftLeft_eq, Nat.one_mul, hd]
    simp
  · rw [Nat.min_eq_right (by omega), Nat.shiftLeft_eq, Nat.one_mul]
    have hlt : N * 2 ^ j < 2 ^ ((N * 2 ^ j).log2 + 1) := by
      by_cases h0 : N * 2 ^ j = 0
      · rw [h0]; exact Nat.two_pow_pos _
      · exact (Nat.log2_lt h0).1 (Nat.lt_succ_self _)
    have hle : N * 2 ^ j < 2 ^ ((N * 2 ^ j).log2 + 2) := Nat.lt_of_lt_of_le hlt (Nat.pow_le_pow_right (by omega) (by omega))
    have hle2 : N * 2 ^ j < 2 ^ (k + j) := Nat.lt_of_lt_of_le hlt (Nat.pow_le_pow_right (by omega) (by omega))
    have h1 := hd N j
    rw [Nat.div_eq_of_lt hle2] at h1
    rw [Nat.div_eq_of_lt hle, ← h1]
    simp
/-- What the cut of it is. -/
theorem tdiv_abs {s : Bool} {n : Int} (hs : n ≠ 0 → s = decide (n < 0)) (k : Nat) : n.natAbs / 2 ^ k = (n.tdiv (2 ^ k)).natAbs ∧ (n.tdiv (2 ^ k) ≠ 0 → s = decide (n.tdiv (2 ^ k) < 0)) := by
  have hp : (((2 ^ k : Nat) : Nat) : Int) = 2 ^ k := by simp
  rw [← hp]
  obtain ⟨K, hK⟩ : ∃ K, 2 ^ k = K := ⟨_, rfl⟩
  rw [hK]
  have h1 : (n.tdiv (K : Int)).natAbs = n.natAbs / K := by rw [Int.natAbs_tdiv]; rfl
  refine ⟨h1.symm, fun h => ?_⟩
  have hn : n ≠ 0 := fun e => h (by rw [e, Int.zero_tdiv])
  rw [hs hn]
  refine decide_eq_decide.2 ?_
  have key : ∀ m : Int, 0 ≤ m → 0 ≤ m.tdiv (K : Int) := fun m hm => Int.tdiv_nonneg hm (by omega)
  constructor
  · intro hlt
    have h2 := key (-n) (by omega)
    rw [Int.neg_tdiv] at h2
    omega
  · intro hlt
    rcases Int.lt_or_le n 0 with h3 | h3
    · exact h3
    · have := key n h3; omega
theorem run_trunc {s : Bool} {n : Int} {k : Nat} (h : Fine s n k) (W : World) : ∃ P, ZW (n.tdiv (2 ^ k)) P ∧ ∀ W, (callFunc 97 #[.float .f64 (fz s n k)]).run Tryd.prog W = .ok (.value (.float .f64 P)) W := by
  obtain ⟨e1, e2⟩ := tdiv_abs h.s k
  have hs : (n.tdiv (2 ^ k)).natAbs < 2 ^ 53 := by
    rw [← e1]; exact Nat.lt_of_le_of_lt (Nat.div_le_self _ _) h.n
  refine ⟨fz s (n.tdiv (2 ^ k)) 0, ⟨s, rfl, ⟨e2, hs, by omega⟩⟩, fun W => ?_⟩
  refine (run_callFunc_extern Tryd.func97 (by kernel_rfl) (by kernel_rfl) (by kernel_rfl) (e := Extern.MathFloor.toIntegral "math.archTrunc" .zero) (by kernel_rfl) _ W).trans ?_
  have hr : FloatKind.f64.decode (fz s n k) = .number s (n.natAbs * 2 ^ more n k) (-((k + more n k : Nat) : Int)) := read_fz h
  rw [entry_num _ _ _ _ _ _ hr]
  have hw : FloatKind.f64.encode (Ieee.Datum.integral .zero (.number s (n.natAbs * 2 ^ more n k) (-((k + more n k : Nat) : Int)))) = fz s (n.tdiv (2 ^ k)) 0 := by
    unfold Ieee.Datum.integral
    dsimp only
    generalize more n k = j
    have a1 : (-((k + j : Nat) : Int)).toNat = 0 := by omega
    have a2 : (-(-((k + j : Nat) : Int))).toNat = k + j := by omega
    rw [a1, a2, Nat.shiftLeft_zero, cut_pow, e1]
    rfl
  rw [hw]
  rfl
set_option maxRecDepth 100000 in
theorem trunc_c {P D : Nat} (h : ∀ W, (callFunc 97 #[.float .f64 P]).run Tryd.prog W = .ok (.value (.float .f64 D)) W) (w : World) :
    Calls Tryd.prog 96 #[.float .f64 P] w fun e w' => e = .returned (.float .f64 D) ∧ Below w.heap.size w w' := by
  go_enter Tryd.func96, Tryd.ntmps96
  go_wp2
  go_ret
  exact ⟨rfl, by go_grown⟩
end Go.Proofs.YtcnejgilmciljaaDoor
