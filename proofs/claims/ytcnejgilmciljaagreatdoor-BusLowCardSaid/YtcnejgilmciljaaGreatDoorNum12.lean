/-
  Doubles that are exact: whole numbers, and such divided by powers of 2, below 2^53: sums, differences, products, how they compare, and cut to whole numbers; with the sign of a zero.
  Whole numbers as doubles, as the walk meets them.
-/
import Derived.WalkKit
import Derived.Laws.FloatArith
import Derived.Test.YtcnejgilmciljaaGreatDoorEnts
import Derived.Laws.ComplexArith
import Derived.WalkLawsBesides
set_option linter.unusedSimpArgs false
set_option linter.unusedVariables false
set_option maxRecDepth 20000
namespace Go.Proofs.YtcnejgilmciljaaGreatDoor

/-- The double of n divided by 2^k, of the sign s where n is 0. -/
def fz (s : Bool) (n : Int) (k : Nat) : Nat := Ieee.double.nearest s n.natAbs (-(k : Int))
/-- It is one that stands for its number. -/
structure Fine (s : Bool) (n : Int) (k : Nat) : Prop where
  s : n ≠ 0 → s = decide (n < 0)
  n : n.natAbs < 2 ^ 53
  k : k ≤ 1000
theorem dbl_least : Ieee.double.leastPlace = -1074 := by decide
theorem dbl_binade : Ieee.double.binade = 2 ^ 52 := by decide
theorem dbl_inf : Ieee.double.infRung = 2047 * 2 ^ 52 := by decide
theorem dbl_sign : Ieee.double.signWeight = 2 ^ 63 := by decide
theorem p52 : (2 : Nat) ^ 52 = 4503599627370496 := by decide
theorem p53 : (2 : Nat) ^ 53 = 9007199254740992 := by decide
theorem p63 : (2 : Nat) ^ 63 = 9223372036854775808 := by decide
theorem min_fit (X K : Nat) (hX : X ≤ 1074 * 2 ^ 52) (hK : K < 2 ^ 53) : X + K ≤ 2047 * 2 ^ 52 := by
  rw [p52] at hX ⊢
  rw [p53] at hK
  omega
theorem cut_zero (neg : Bool) (x : Nat) : Ieee.Toward.even.cut neg x 0 = x := by
  simp [Ieee.Toward.cut, Nat.mod_one]
theorem log2_le {m : Nat} (h0 : m ≠ 0) (h : m < 2 ^ 53) : m.log2 ≤ 52 := by
  have := (Nat.log2_lt h0).2 h
  omega
/-- The digits of a whole number, moved up to the first of 53. -/
theorem top_bits {m : Nat} (h0 : m ≠ 0) (h : m < 2 ^ 53) : 2 ^ 52 ≤ m * 2 ^ (52 - m.log2) ∧ m * 2 ^ (52 - m.log2) < 2 ^ 53 := by
  have hl := log2_le h0 h
  have h1 := Nat.log2_self_le h0
  have h2 := (Nat.log2_lt h0).1 (Nat.lt_succ_self m.log2)
  constructor
  · calc 2 ^ 52 = 2 ^ m.log2 * 2 ^ (52 - m.log2) := by rw [← Nat.pow_add]; congr 1; omega
      _ ≤ m * 2 ^ (52 - m.log2) := Nat.mul_le_mul_right _ h1
  · calc m * 2 ^ (52 - m.log2) < 2 ^ (m.log2 + 1) * 2 ^ (52 - m.log2) := Nat.mul_lt_mul_of_pos_right h2 (Nat.two_pow_pos _)
      _ = 2 ^ 53 := by rw [← Nat.pow_add]; congr 1; omega
theorem cut_exact (neg : Bool) (x j : Nat) (hx : x ≠ 0) : Ieee.Toward.even.cut neg (x * 2 ^ j) j = x := by
  have hl : j ≤ (x * 2 ^ j).log2 := by
    have h1 : 2 ^ j ≤ x * 2 ^ j := Nat.le_mul_of_pos_left _ (Nat.pos_of_ne_zero hx)
    exact (Nat.le_log2 (Nat.mul_ne_zero hx (Nat.pos_iff_ne_zero.1 (Nat.two_pow_pos _)))).2 h1
  unfold Ieee.Toward.cut
  have hm : min j ((x * 2 ^ j).log2 + 2) = j := Nat.min_eq_left (by omega)
  dsimp only
  rw [hm, Nat.shiftLeft_eq, Nat.one_mul, Nat.mul_div_cancel _ (Nat.two_pow_pos _), Nat.mul_mod_left]
  have hp := Nat.two_pow_pos j
  simp
/-- A number as it is written: the word of its digits. -/
theorem nearest_eq (neg : Bool) {m : Nat} (h0 : m ≠ 0) (h : m < 2 ^ 53) {k : Nat} (hk : k ≤ 1000) (j : Nat) :
    Ieee.double.nearest neg (m * 2 ^ j) (-((k + j : Nat) : Int)) = Ieee.double.word neg ((m.log2 + 1022 - k) * 2 ^ 52 + m * 2 ^ (52 - m.log2)) := by
  have hl := log2_le h0 h
  have ht := top_bits h0 h
  have hne : m * 2 ^ j ≠ 0 := Nat.mul_ne_zero h0 (Nat.pos_iff_ne_zero.1 (Nat.two_pow_pos _))
  have hlog : (m * 2 ^ j).log2 = m.log2 + j := by
    have h1 := Nat.log2_self_le h0
    have h2 := (Nat.log2_lt h0).1 (Nat.lt_succ_self m.log2)
    apply Nat.le_antisymm
    · have : (m * 2 ^ j).log2 < m.log2 + j + 1 := (Nat.log2_lt hne).2 (by
        rw [show m.log2 + j + 1 = (m.log2 + 1) + j by omega, Nat.pow_add]
        exact Nat.mul_lt_mul_of_pos_right h2 (Nat.two_pow_pos _))
      omega
    · exact (Nat.le_log2 hne).2 (by rw [Nat.pow_add]; exact Nat.mul_le_mul_right _ h1)
  unfold Ieee.Format.nearest
  rw [if_neg hne]
  dsimp only
  rw [hlog, dbl_least, dbl_binade, dbl_inf, show (Ieee.double.fractionBits : Int) = 52 from rfl]
  have hlast : max (-((k + j : Nat) : Int) + ((m.log2 + j : Nat) : Int) - 52) (-1074) = (m.log2 : Int) - 52 - k := by omega
  rw [hlast]
  have e1 : ((m.log2 : Int) - 52 - k - -1074).toNat = m.log2 + 1022 - k := by omega
  rw [e1]
  have hcut : Ieee.Toward.even.cut neg ((m * 2 ^ j) <<< (-((k + j : Nat) : Int) - ((m.log2 : Int) - 52 - k)).toNat) ((m.log2 : Int) - 52 - k - -((k + j : Nat) : Int)).toNat = m * 2 ^ (52 - m.log2) := by
    by_cases hj : j ≤ 52 - m.log2
    · have a1 : (-((k + j : Nat) : Int) - ((m.log2 : Int) - 52 - k)).toNat = 52 - m.log2 - j := by omega
      have a2 : ((m.log2 : Int) - 52 - k - -((k + j : Nat) : Int)).toNat = 0 := by omega
      rw [a1, a2, cut_zero, Nat.shiftLeft_eq, Nat.mul_assoc, ← Nat.pow_add]
      congr 2
      omega
    · have a1 : (-((k + j : Nat) : Int) - ((m.log2 : Int) - 52 - k)).toNat = 0 := by omega
      have a2 : ((m.log2 : Int) - 52 - k - -((k + j : Nat) : Int)).toNat = j - (52 - m.log2) := by omega
      rw [a1, a2, Nat.shiftLeft_zero]
      have e : m * 2 ^ j = m * 2 ^ (52 - m.log2) * 2 ^ (j - (52 - m.log2)) := by
        rw [Nat.mul_assoc, ← Nat.pow_add]; congr 2; omega
      rw [e]
      exact cut_exact _ _ _ (by omega)
  rw [hcut]
  congr 1
  apply Nat.min_eq_left
  have : m.log2 + 1022 - k ≤ 1074 := by omega
  have h3 : (m.log2 + 1022 - k) * 2 ^ 52 ≤ 1074 * 2 ^ 52 := Nat.mul_le_mul_right _ this
  exact min_fit _ _ h3 ht.2
/-- The same number, of more digits. -/
theorem nearest_shift (neg : Bool) {m : Nat} (h : m < 2 ^ 53) {k : Nat} (hk : k ≤ 1000) (j : Nat) : Ieee.double.nearest neg (m * 2 ^ j) (-((k + j : Nat) : Int)) = Ieee.double.nearest neg m (-(k : Int)) := by
  by_cases h0 : m = 0
  · subst h0
    rw [Nat.zero_mul]
    unfold Ieee.Format.nearest
    rw [if_pos rfl, if_pos rfl]
  · have h1 := nearest_eq neg h0 h hk j
    have h2 := nearest_eq neg h0 h hk 0
    rw [Nat.pow_zero, Nat.mul_one, Nat.add_zero] at h2
    rw [h1, h2]
theorem read_word (neg : Bool) (E F : Nat) (hE : 1 ≤ E) (hE2 : E < 2047) (hF : F < 2 ^ 52) : Ieee.double.read (Ieee.double.word neg (E * 2 ^ 52 + F)) = .number neg (2 ^ 52 + F) (-1074 + ((E - 1 : Nat) : Int)) := by
  have hlt : E * 2 ^ 52 + F < 2 ^ 63 := by
    have : E * 2 ^ 52 ≤ 2046 * 2 ^ 52 := Nat.mul_le_mul_right _ (by omega)
    omega
  have hge : 2 ^ 52 ≤ E * 2 ^ 52 := Nat.le_mul_of_pos_left _ (by omega)
  have hinf : E * 2 ^ 52 + F < 2047 * 2 ^ 52 := by
    have : E * 2 ^ 52 ≤ 2046 * 2 ^ 52 := Nat.mul_le_mul_right _ (by omega)
    omega
  have hmod : (E * 2 ^ 52 + F) % 2 ^ 52 = F := by rw [Nat.mul_comm, Nat.mul_add_mod, Nat.mod_eq_of_lt hF]
  have hdiv : (E * 2 ^ 52 + F) / 2 ^ 52 = E := by rw [Nat.mul_comm, Nat.mul_add_div (Nat.two_pow_pos _), Nat.div_eq_of_lt hF, Nat.add_zero]
  unfold Ieee.Format.read
  dsimp only
  rw [dbl_sign, dbl_binade, dbl_inf, dbl_least]
  have hneg : (Ieee.double.word neg (E * 2 ^ 52 + F) / 2 ^ 63 % 2 == 1) = neg := by
    unfold Ieee.Format.word
    rw [dbl_sign]
    cases neg
    · simp only [Bool.false_eq_true, if_false]
      rw [Nat.div_eq_of_lt hlt]; rfl
    · simp only [if_true]
      rw [show (2 ^ 63 + (E * 2 ^ 52 + F)) / 2 ^ 63 = 1 from by rw [Nat.add_div_left _ (Nat.two_pow_pos _), Nat.div_eq_of_lt hlt]]; rfl
  have hrung : Ieee.double.word neg (E * 2 ^ 52 + F) % 2 ^ 63 = E * 2 ^ 52 + F := by
    unfold Ieee.Format.word
    rw [dbl_sign]
    cases neg
    · simp only [Bool.false_eq_true, if_false]
      exact Nat.mod_eq_of_lt hlt
    · simp only [if_true]
      rw [Nat.add_mod_left, Nat.mod_eq_of_lt hlt]
  rw [hneg, hrung, if_neg (by omega), if_pos hinf, hmod, hdiv]
theorem read_zero (neg : Bool) : Ieee.double.read (Ieee.double.word neg 0) = .number neg 0 (-1074) := by
  cases neg <;> decide
/-- How many digits more a double has than it needs. -/
def more (n : Int) (k : Nat) : Nat := if n = 0 then 1074 - k else 52 - n.natAbs.log2
theorem read_fz {s : Bool} {n : Int} {k : Nat} (h : Fine s n k) : Ieee.double.read (fz s n k) = .number s (n.natAbs * 2 ^ more n k) (-((k + more n k : Nat) : Int)) := by
  have hk := h.k
  unfold fz more
  by_cases h0 : n = 0
  · subst h0
    rw [if_pos rfl]
    unfold Ieee.Format.nearest
    rw [if_pos (by rfl), read_zero, Int.natAbs_zero, Nat.zero_mul]
    congr 1
    omega
  · rw [if_neg h0]
    have hm : n.natAbs ≠ 0 := by omega
    have hl := log2_le hm h.n
    have ht := top_bits hm h.n
    have h2 := nearest_eq s hm h.n hk 0
    rw [Nat.pow_zero, Nat.mul_one, Nat.add_zero] at h2
    rw [h2]
    obtain ⟨K, hK⟩ : ∃ K, n.natAbs * 2 ^ (52 - n.natAbs.log2) = K := ⟨_, rfl⟩
    rw [hK] at ht ⊢
    have e : (n.natAbs.log2 + 1022 - k) * 2 ^ 52 + K = (n.natAbs.log2 + 1023 - k) * 2 ^ 52 + (K - 2 ^ 52) := by
      have : n.natAbs.log2 + 1023 - k = (n.natAbs.log2 + 1022 - k) + 1 := by omega
      rw [this, Nat.add_mul, Nat.one_mul]
      have h5 := ht.1
      generalize (n.natAbs.log2 + 1022 - k) * 2 ^ 52 = X at *
      rw [p52] at h5 ⊢
      omega
    have hK1 : 2 ^ 52 + (K - 2 ^ 52) = K := by have h5 := ht.1; rw [p52] at h5 ⊢; omega
    have hK2 : K - 2 ^ 52 < 2 ^ 52 := by have h5 := ht.2; rw [p53] at h5; rw [p52]; omega
    refine (congrArg (fun r => Ieee.double.read (Ieee.double.word s r)) e).trans ?_
    refine (read_word s _ _ (by omega) (by omega) hK2).trans ?_
    rw [hK1]
    exact congrArg (Ieee.Datum.number s K) (by omega)
theorem signed_fz {s : Bool} {n : Int} (hs : n ≠ 0 → s = decide (n < 0)) (j u : Nat) : Ieee.signed s (n.natAbs * 2 ^ j) u = n * 2 ^ (j + u) := by
  unfold Ieee.signed
  rw [Nat.shiftLeft_eq, Nat.mul_assoc, ← Nat.pow_add]
  by_cases h0 : n = 0
  · subst h0; cases s <;> simp
  · rw [hs h0]
    by_cases hn : n < 0
    · rw [decide_eq_true hn, if_pos rfl]
      rw [Int.natCast_mul, Int.natCast_pow, show ((n.natAbs : Nat) : Int) = -n by omega, Int.neg_mul, Int.neg_neg]
      rfl
    · rw [decide_eq_false hn, if_neg (by simp)]
      rw [Int.natCast_mul, Int.natCast_pow, show ((n.natAbs : Nat) : Int) = n by omega]
      rfl
theorem pow_pos_int (j : Nat) : (0 : Int) < 2 ^ j := by
  have : ((2 ^ j : Nat) : Int) = 2 ^ j := by simp
  rw [← this]
  exact Int.natCast_pos.2 (Nat.two_pow_pos _)
theorem natAbs_shift (t : Int) (j : Nat) : (t * 2 ^ j).natAbs = t.natAbs * 2 ^ j := by
  rw [Int.natAbs_mul, Int.natAbs_pow]; rfl
/-- What a sum, or a difference, is. -/
theorem sum_fz {s t : Bool} {m n : Int} {k : Nat} (h1 : Fine s m k) (hk2 : k ≤ 1000) (t' : Bool) (hn : n.natAbs < 2 ^ 53) (n' : Int) (hd : Ieee.double.read (fz t n k) = .number t (n.natAbs * 2 ^ more n k) (-((k + more n k : Nat) : Int))) (hs' : n' ≠ 0 → t' = decide (n' < 0)) (he : n'.natAbs = n.natAbs) (hb : (m + n').natAbs < 2 ^ 53) :
    ((Ieee.double.read (fz s m k)).sum (.number t' (n.natAbs * 2 ^ more n k) (-((k + more n k : Nat) : Int)))).map Ieee.double.write = some (fz (if m + n' = 0 then s && t' else decide (m + n' < 0)) (m + n') k) := by
  rw [read_fz h1]
  simp only [Ieee.Datum.sum, Option.map_some]
  generalize more m k = a
  generalize more n k = b
  obtain ⟨J, hJ⟩ : ∃ J, max a b = J := ⟨_, rfl⟩
  have hbase : min (-((k + a : Nat) : Int)) (-((k + b : Nat) : Int)) = -((k + J : Nat) : Int) := by omega
  rw [hbase]
  have ha : (-((k + a : Nat) : Int) - -((k + J : Nat) : Int)).toNat = J - a := by omega
  have hb' : (-((k + b : Nat) : Int) - -((k + J : Nat) : Int)).toNat = J - b := by omega
  rw [ha, hb', signed_fz h1.s, ← he, signed_fz hs', show a + (J - a) = J by omega, show b + (J - b) = J by omega, ← Int.add_mul]
  have hp := pow_pos_int J
  have hz : ((m + n') * 2 ^ J = 0) ↔ (m + n' = 0) := by
    constructor
    · intro h
      rcases Int.mul_eq_zero.1 h with h | h
      · exact h
      · omega
    · intro h; rw [h, Int.zero_mul]
  have hlt : ((m + n') * 2 ^ J < 0) ↔ (m + n' < 0) := by
    constructor
    · intro h
      exact Classical.byContradiction fun hc => by
        have := Int.mul_nonneg (show 0 ≤ m + n' by omega) (Int.le_of_lt hp)
        omega
    · intro h; exact Int.mul_neg_of_neg_of_pos h hp
  congr 1
  simp only [Ieee.Format.write]
  rw [natAbs_shift, nearest_shift _ hb hk2]
  unfold fz
  congr 1
  by_cases hc : m + n' = 0
  · rw [if_pos (hz.2 hc), if_pos hc]
  · rw [if_neg (fun h => hc (hz.1 h)), if_neg hc]
    exact decide_eq_decide.2 hlt
theorem fz_add {s t : Bool} {m n : Int} {k : Nat} (h1 : Fine s m k) (h2 : Fine t n k) (hb : (m + n).natAbs < 2 ^ 53) :
    floatBits .add .f64 (fz s m k) (fz t n k) = some (fz (if m + n = 0 then s && t else decide (m + n < 0)) (m + n) k) := by
  have := sum_fz (t := t) h1 h1.k t h2.n n (read_fz h2) h2.s rfl hb
  rw [← read_fz h2] at this
  exact this
theorem fz_sub {s t : Bool} {m n : Int} {k : Nat} (h1 : Fine s m k) (h2 : Fine t n k) (hb : (m - n).natAbs < 2 ^ 53) :
    floatBits .sub .f64 (fz s m k) (fz t n k) = some (fz (if m - n = 0 then s && !t else decide (m - n < 0)) (m - n) k) := by
  have := sum_fz (t := t) h1 h1.k (!t) h2.n (-n) (read_fz h2) (fun h => by
    have h3 : n ≠ 0 := by omega
    rw [h2.s h3]
    by_cases h4 : n < 0
    · rw [decide_eq_true h4, decide_eq_false (by omega)]; rfl
    · rw [decide_eq_false h4, decide_eq_true (by omega)]; rfl) (Int.natAbs_neg n) (by rw [← Int.sub_eq_add_neg]; exact hb)
  rw [← Int.sub_eq_add_neg] at this
  unfold floatBits
  show ((Ieee.double.read (fz s m k)).sum (Ieee.double.read (fz t n k)).opposite).map Ieee.double.write = _
  rw [read_fz h2]
  exact this
theorem fz_mul {s t : Bool} {m n : Int} {k l : Nat} (h1 : Fine s m k) (h2 : Fine t n l) (hb : (m * n).natAbs < 2 ^ 53) (hk : k + l ≤ 1000) :
    floatBits .mul .f64 (fz s m k) (fz t n l) = some (fz (s ^^ t) (m * n) (k + l)) := by
  unfold floatBits
  show ((Ieee.double.read (fz s m k)).product (Ieee.double.read (fz t n l))).map Ieee.double.write = _
  rw [read_fz h1, read_fz h2]
  simp only [Ieee.Datum.product, Option.map_some, Ieee.Format.write]
  generalize more m k = a
  generalize more n l = b
  have e1 : m.natAbs * 2 ^ a * (n.natAbs * 2 ^ b) = (m * n).natAbs * 2 ^ (a + b) := by
    rw [Int.natAbs_mul, Nat.pow_add]
    simp only [Nat.mul_assoc, Nat.mul_left_comm, Nat.mul_comm]
  have e2 : -((k + a : Nat) : Int) + -((l + b : Nat) : Int) = -(((k + l) + (a + b) : Nat) : Int) := by omega
  rw [e1, e2, nearest_shift _ hb hk]
  rfl
theorem fz_order {s t : Bool} {m n : Int} {k : Nat} (h1 : Fine s m k) (h2 : Fine t n k) : FloatKind.f64.format.order (fz s m k) (fz t n k) = some (compare m n) := by
  show (Ieee.double.read (fz s m k)).order (Ieee.double.read (fz t n k)) = _
  rw [read_fz h1, read_fz h2]
  simp only [Ieee.Datum.order]
  generalize more m k = a
  generalize more n k = b
  obtain ⟨J, hJ⟩ : ∃ J, max a b = J := ⟨_, rfl⟩
  have hbase : min (-((k + a : Nat) : Int)) (-((k + b : Nat) : Int)) = -((k + J : Nat) : Int) := by omega
  rw [hbase]
  have ha : (-((k + a : Nat) : Int) - -((k + J : Nat) : Int)).toNat = J - a := by omega
  have hb' : (-((k + b : Nat) : Int) - -((k + J : Nat) : Int)).toNat = J - b := by omega
  rw [ha, hb', signed_fz h1.s, signed_fz h2.s, show a + (J - a) = J by omega, show b + (J - b) = J by omega]
  have hp := pow_pos_int J
  congr 1
  rw [Int.compare_eq_ite_lt, Int.compare_eq_ite_lt]
  have q1 : (m * 2 ^ J < n * 2 ^ J) ↔ m < n := ⟨fun h => Int.lt_of_mul_lt_mul_right h (Int.le_of_lt hp), fun h => Int.mul_lt_mul_of_pos_right h hp⟩
  have q2 : (n * 2 ^ J < m * 2 ^ J) ↔ n < m := ⟨fun h => Int.lt_of_mul_lt_mul_right h (Int.le_of_lt hp), fun h => Int.mul_lt_mul_of_pos_right h hp⟩
  by_cases c1 : m < n
  · rw [if_pos c1, if_pos (q1.2 c1)]
  · rw [if_neg c1, if_neg (fun h => c1 (q1.1 h))]
    by_cases c2 : n < m
    · rw [if_pos c2, if_pos (q2.2 c2)]
    · rw [if_neg c2, if_neg (fun h => c2 (q2.1 h))]
/-- Cut towards 0. -/
theorem fz_cut {s : Bool} {n : Int} {k : Nat} (h : Fine s n k) : (FloatKind.f64.decode (fz s n k)).toInt .zero = some (n.tdiv (2 ^ k)) := by
  show (Ieee.double.read (fz s n k)).toInt .zero = _
  rw [read_fz h]
  unfold Ieee.Datum.toInt Ieee.Datum.integral
  dsimp only
  obtain ⟨j, hj⟩ : ∃ j, more n k = j := ⟨_, rfl⟩
  rw [hj]
  have e1 : (-((k + j : Nat) : Int)).toNat = 0 := by omega
  have e2 : (-(-((k + j : Nat) : Int))).toNat = k + j := by omega
  rw [e1, e2, Nat.shiftLeft_zero]
  have hc : Ieee.Toward.zero.cut s (n.natAbs * 2 ^ j) (k + j) = n.natAbs / 2 ^ k := by
    have hd : ∀ N J : Nat, N * 2 ^ J / 2 ^ (k + J) = N / 2 ^ k := fun N J => by
      rw [Nat.pow_add, Nat.mul_comm (2 ^ k), ← Nat.div_div_eq_div_mul, Nat.mul_div_cancel _ (Nat.two_pow_pos _)]
    unfold Ieee.Toward.cut
    dsimp only
    by_cases hm : k + j ≤ (n.natAbs * 2 ^ j).log2 + 2
    · rw [Nat.min_eq_left hm, Nat.shiftLeft_eq, Nat.one_mul, hd]
      simp
    · rw [Nat.min_eq_right (by omega), Nat.shiftLeft_eq, Nat.one_mul]
      have hlt : n.natAbs * 2 ^ j < 2 ^ ((n.natAbs * 2 ^ j).log2 + 1) := by
        by_cases h0 : n.natAbs * 2 ^ j = 0
        · rw [h0]; exact Nat.two_pow_pos _
        · exact (Nat.log2_lt h0).1 (Nat.lt_succ_self _)
      have hle : n.natAbs * 2 ^ j < 2 ^ ((n.natAbs * 2 ^ j).log2 + 2) := Nat.lt_of_lt_of_le hlt (Nat.pow_le_pow_right (by omega) (by omega))
      have hle2 : n.natAbs * 2 ^ j < 2 ^ (k + j) := Nat.lt_of_lt_of_le hlt (Nat.pow_le_pow_right (by omega) (by omega))
      have h1 := hd n.natAbs j
      rw [Nat.div_eq_of_lt hle2] at h1
      rw [Nat.div_eq_of_lt hle, ← h1]
      simp
  rw [hc]
  congr 1
  have hs := h.s
  unfold Ieee.signed
  rw [Nat.shiftLeft_zero]
  have hp : (((2 ^ k : Nat) : Nat) : Int) = 2 ^ k := by simp
  by_cases h0 : n = 0
  · subst h0; cases s <;> simp
  · rw [hs h0]
    by_cases hn : n < 0
    · rw [decide_eq_true hn, if_pos rfl]
      have e : n = -((n.natAbs : Nat) : Int) := by omega
      rw [show n.tdiv (2 ^ k) = (-((n.natAbs : Nat) : Int)).tdiv (2 ^ k) from by rw [← e], Int.neg_tdiv, ← hp, ← Int.ofNat_tdiv]
    · rw [decide_eq_false hn, if_neg (by simp)]
      have e : n = ((n.natAbs : Nat) : Int) := by omega
      rw [show n.tdiv (2 ^ k) = (((n.natAbs : Nat) : Int)).tdiv (2 ^ k) from by rw [← e], ← hp, ← Int.ofNat_tdiv]
theorem fz_shift (s : Bool) (n : Int) (k j : Nat) (h : n.natAbs < 2 ^ 53) (hk : k ≤ 1000) : fz s (n * 2 ^ j) (k + j) = fz s n k := by
  unfold fz
  rw [natAbs_shift, nearest_shift _ h hk]
end Go.Proofs.YtcnejgilmciljaaGreatDoor
set_option linter.unusedSimpArgs false
set_option linter.unusedVariables false
namespace Go.Proofs.YtcnejgilmciljaaGreatDoor
open Go.RowKit Go.PlainAid

/-- The double of a whole number; no 0 of it is below 0. -/
def zF (n : Int) : Nat := fz (decide (n < 0)) n 0
theorem zF_fine {n : Int} (h : n.natAbs < 2 ^ 53) : Fine (decide (n < 0)) n 0 := ⟨fun _ => rfl, h, by omega⟩
theorem zF_of (n : Int) : floatOfInt .f64 n = zF n := by
  unfold zF fz floatOfInt FloatKind.nearest FloatKind.encode
  rfl
theorem zF_order {m n : Int} (h1 : m.natAbs < 2 ^ 53) (h2 : n.natAbs < 2 ^ 53) : FloatKind.f64.format.order (zF m) (zF n) = some (compare m n) := fz_order (zF_fine h1) (zF_fine h2)
theorem zF_eq {m n : Int} (h1 : m.natAbs < 2 ^ 53) (h2 : n.natAbs < 2 ^ 53) : (FloatKind.f64.format.order (zF m) (zF n) == some .eq) = decide (m = n) := by
  rw [zF_order h1 h2, Int.compare_eq_ite_lt]
  by_cases h : m = n
  · subst h; simp
  · rw [decide_eq_false h]
    rcases Int.lt_or_gt_of_ne h with h3 | h3
    · rw [if_pos h3]; rfl
    · rw [if_neg (by omega), if_pos h3]; rfl
theorem zF_zero : zF 0 = 0 := by decide
theorem zF_one : zF 1 = 4607182418800017408 := by decide
theorem zF_neg1 : zF (-1) = 13830554455654793216 := by decide
theorem zF_add {m n : Int} (h1 : m.natAbs < 2 ^ 53) (h2 : n.natAbs < 2 ^ 53) (h3 : (m + n).natAbs < 2 ^ 53) : floatBits .add .f64 (zF m) (zF n) = some (zF (m + n)) := by
  have := fz_add (zF_fine h1) (zF_fine h2) h3
  unfold zF
  rw [this]
  by_cases h : m + n = 0
  · rw [if_pos h, h]
    have : (decide (m < 0) && decide (n < 0)) = false := by
      by_cases hm : m < 0
      · have : ¬ n < 0 := by omega
        simp [this]
      · simp [hm]
    rw [this]
    rfl
  · rw [if_neg h]
theorem zF_sub {m n : Int} (h1 : m.natAbs < 2 ^ 53) (h2 : n.natAbs < 2 ^ 53) (h3 : (m - n).natAbs < 2 ^ 53) : floatBits .sub .f64 (zF m) (zF n) = some (zF (m - n)) := by
  have := fz_sub (zF_fine h1) (zF_fine h2) h3
  unfold zF
  rw [this]
  by_cases h : m - n = 0
  · rw [if_pos h, h]
    have : (decide (m < 0) && !decide (n < 0)) = false := by
      have e : m = n := by omega
      subst e
      cases decide (m < 0) <;> rfl
    rw [this]
    rfl
  · rw [if_neg h]
/-- Cut to a whole number. -/
theorem fz_int {s : Bool} {n : Int} (h : Fine s n 0) : (FloatKind.f64.decode (fz s n 0)).toInt .zero = some n := by
  have hn := h.n
  show (Ieee.double.read (fz s n 0)).toInt .zero = some n
  rw [read_fz h]
  unfold Ieee.Datum.toInt Ieee.Datum.integral
  dsimp only
  obtain ⟨j, hj⟩ : ∃ j, more n 0 = j := ⟨_, rfl⟩
  rw [hj]
  have e1 : (-((0 + j : Nat) : Int)).toNat = 0 := by omega
  have e2 : (-(-((0 + j : Nat) : Int))).toNat = j := by omega
  rw [e1, e2, Nat.shiftLeft_zero]
  have hc : Ieee.Toward.zero.cut s (n.natAbs * 2 ^ j) j = n.natAbs := by
    by_cases h0 : n = 0
    · subst h0
      unfold Ieee.Toward.cut
      simp
    · have hx : n.natAbs ≠ 0 := by omega
      have hl : j ≤ (n.natAbs * 2 ^ j).log2 := (Nat.le_log2 (Nat.mul_ne_zero hx (Nat.pos_iff_ne_zero.1 (Nat.two_pow_pos _)))).2 (Nat.le_mul_of_pos_left _ (Nat.pos_of_ne_zero hx))
      unfold Ieee.Toward.cut
      have hm : min j ((n.natAbs * 2 ^ j).log2 + 2) = j := Nat.min_eq_left (by omega)
      dsimp only
      rw [hm, Nat.shiftLeft_eq, Nat.one_mul, Nat.mul_div_cancel _ (Nat.two_pow_pos _)]
      simp
  rw [hc]
  congr 1
  have := signed_fz (s := s) (n := n) h.s 0 0
  rw [Nat.pow_zero, Nat.mul_one] at this
  simpa using this
theorem zF_int {n : Int} (h : n.natAbs < 2 ^ 53) : floatToIntVal .f64 (zF n) .i64 = some n := by
  unfold floatToIntVal zF
  rw [fz_int (zF_fine h)]
  dsimp only
  rw [if_pos]
  have : IntKind.i64.min = -9223372036854775808 := by decide
  have h2 : IntKind.i64.max = 9223372036854775807 := by decide
  rw [this, h2]
  rw [p53] at h
  omega
/-- A place, or a way. -/
def cV (x y : Int) : Value := .complex .f64 (zF x) (zF y)
end Go.Proofs.YtcnejgilmciljaaGreatDoor
