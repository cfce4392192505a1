/-
  Decimal digits: the plain facts; SumsDigits of numbers that are none.
-/
import Derived.Test.YtdmgdldadpkhgaaSignsWalk
import Derived.Test.YtdmgdldadpkhgaaPlanA
set_option linter.unusedSimpArgs false
set_option linter.unusedVariables false
namespace Go.Proofs.Ytdmgdldadpkhgaa
open Go.RowKit

def bcd (m : Int) : Int := m / 10 * 16 + m % 10
theorem tmd (n m : Int) (h : 0 ≤ n) : n.tmod m = n % m := Int.tmod_eq_emod_of_nonneg h
theorem bcd_hi (m : Int) (h : 0 ≤ m) (h' : m ≤ 99) : 0 ≤ bcd m ∧ bcd m ≤ 153 := by unfold bcd; omega
theorem lo_bcd (m : Int) (h : 0 ≤ m) (h' : m ≤ 99) : lo (BitVec.ofInt 8 (bcd m)) = m % 10 := by
  unfold lo; rw [u8_ofInt]; unfold bcd; omega
theorem hi_bcd (m : Int) (h : 0 ≤ m) (h' : m ≤ 99) : hi (BitVec.ofInt 8 (bcd m)) = m / 10 * 16 := by
  unfold hi; rw [u8_ofInt]; unfold bcd; omega
theorem ofInt_eq {a b : Int} (h : a % 256 = b % 256) : BitVec.ofInt 8 a = BitVec.ofInt 8 b := by
  apply BitVec.eq_of_toNat_eq
  rw [BitVec.toNat_ofInt, BitVec.toNat_ofInt]
  omega
theorem pk (P : Int) (h : 0 ≤ P) (h' : P ≤ 99) : P.tdiv 10 = P / 10 ∧ P.tmod 10 = P % 10 ∧ IntKind.i64.wrap (P / 10) = P / 10 ∧ IntKind.i64.wrap (P / 10 * 16) = P / 10 * 16 ∧ IntKind.i64.wrap (P / 10 * 16 + P % 10) = bcd P :=
  ⟨Int.tdiv_eq_ediv_of_nonneg h, tmd _ _ h, IntWalk.i64_in _ (by omega), IntWalk.i64_in _ (by omega), IntWalk.i64_in _ (by omega)⟩
theorem mod_b (S : Int) : 0 ≤ S % 100 ∧ S % 100 ≤ 99 := by omega
theorem bcd_mk (N H L : Int) (hL : 0 ≤ L) (hL' : L ≤ 9) (h : N = 10 * H + L) : bcd N = H * 16 + L := by
  subst h; unfold bcd; omega
/-- The decimal sum of digits a b and d e with k. -/
theorem add_plain (a b d e k : Int) (a1 : 0 ≤ a) (a2 : a ≤ 9) (b1 : 0 ≤ b) (b2 : b ≤ 9) (d1 : 0 ≤ d) (d2 : d ≤ 9) (e1 : 0 ≤ e) (e2 : e ≤ 9) (k1 : 0 ≤ k) (k2 : k ≤ 1) (g h : Int)
    (hg : g = a * 16 + d * 16 + if b + e + k < 10 then b + e + k else b + e + k + 6) (hh : h = if g < 160 then g else g + 96) :
    (256 ≤ h ↔ 100 ≤ 10 * a + b + (10 * d + e) + k) ∧ h % 256 = bcd ((10 * a + b + (10 * d + e) + k) % 100) % 256 := by
  by_cases hl : b + e + k < 10
  · rw [if_pos hl] at hg
    by_cases hq : a + d < 10
    · rw [bcd_mk ((10 * a + b + (10 * d + e) + k) % 100) (a + d) (b + e + k) (by omega) (by omega) (by omega)]
      rw [if_pos (by omega)] at hh
      omega
    · rw [bcd_mk ((10 * a + b + (10 * d + e) + k) % 100) (a + d - 10) (b + e + k) (by omega) (by omega) (by omega)]
      rw [if_neg (by omega)] at hh
      omega
  · rw [if_neg hl] at hg
    by_cases hq : a + d + 1 < 10
    · rw [bcd_mk ((10 * a + b + (10 * d + e) + k) % 100) (a + d + 1) (b + e + k - 10) (by omega) (by omega) (by omega)]
      rw [if_pos (by omega)] at hh
      omega
    · rw [bcd_mk ((10 * a + b + (10 * d + e) + k) % 100) (a + d - 9) (b + e + k - 10) (by omega) (by omega) (by omega)]
      rw [if_neg (by omega)] at hh
      omega
theorem sub_plain (a b d e k : Int) (a1 : 0 ≤ a) (a2 : a ≤ 9) (b1 : 0 ≤ b) (b2 : b ≤ 9) (d1 : 0 ≤ d) (d2 : d ≤ 9) (e1 : 0 ≤ e) (e2 : e ≤ 9) (k1 : 0 ≤ k) (k2 : k ≤ 1) (g h : Int)
    (hg : g = a * 16 - d * 16 + if b - e - (1 - k) < 0 then b - e - (1 - k) - 6 else b - e - (1 - k)) (hh : h = if g < 0 then g - 96 else g) :
    h % 256 = bcd ((10 * a + b - (10 * d + e) - (1 - k) + 100) % 100) % 256 := by
  by_cases hl : b - e - (1 - k) < 0
  · rw [if_pos hl] at hg
    by_cases hq : a - d - 1 < 0
    · rw [bcd_mk ((10 * a + b - (10 * d + e) - (1 - k) + 100) % 100) (a - d + 9) (b - e - (1 - k) + 10) (by omega) (by omega) (by omega)]
      rw [if_pos (by omega)] at hh
      omega
    · rw [bcd_mk ((10 * a + b - (10 * d + e) - (1 - k) + 100) % 100) (a - d - 1) (b - e - (1 - k) + 10) (by omega) (by omega) (by omega)]
      rw [if_neg (by omega)] at hh
      omega
  · rw [if_neg hl] at hg
    by_cases hq : a - d < 0
    · rw [bcd_mk ((10 * a + b - (10 * d + e) - (1 - k) + 100) % 100) (a - d + 10) (b - e - (1 - k)) (by omega) (by omega) (by omega)]
      rw [if_pos (by omega)] at hh
      omega
    · rw [bcd_mk ((10 * a + b - (10 * d + e) - (1 - k) + 100) % 100) (a - d) (b - e - (1 - k)) (by omega) (by omega) (by omega)]
      rw [if_neg (by omega)] at hh
      omega
theorem dig_add (m n : Int) (c : Bool) (h1 : 0 ≤ m) (h2 : m ≤ 99) (h3 : 0 ≤ n) (h4 : n ≤ 99) :
    (addD (BitVec.ofInt 8 (bcd m)) (BitVec.ofInt 8 (bcd n)) c).c = decide (100 ≤ m + n + cnt c) ∧ (addD (BitVec.ofInt 8 (bcd m)) (BitVec.ofInt 8 (bcd n)) c).a = BitVec.ofInt 8 (bcd ((m + n + cnt c) % 100)) := by
  have c1 := cnt_lo c
  have c2 := cnt_hi c
  have e0 : dL0 (BitVec.ofInt 8 (bcd m)) (BitVec.ofInt 8 (bcd n)) c = m % 10 + n % 10 + cnt c := by unfold dL0; rw [lo_bcd m h1 h2, lo_bcd n h3 h4]
  have e1 : dL (BitVec.ofInt 8 (bcd m)) (BitVec.ofInt 8 (bcd n)) c = if m % 10 + n % 10 + cnt c < 10 then m % 10 + n % 10 + cnt c else m % 10 + n % 10 + cnt c + 6 := by
    unfold dL
    rw [e0]
    split
    · rfl
    · omega
  have e2 : dH0 (BitVec.ofInt 8 (bcd m)) (BitVec.ofInt 8 (bcd n)) c = m / 10 * 16 + n / 10 * 16 + if m % 10 + n % 10 + cnt c < 10 then m % 10 + n % 10 + cnt c else m % 10 + n % 10 + cnt c + 6 := by
    unfold dH0
    rw [e1, hi_bcd m h1 h2, hi_bcd n h3 h4]
  have h := add_plain (m / 10) (m % 10) (n / 10) (n % 10) (cnt c) (by omega) (by omega) (by omega) (by omega) (by omega) (by omega) (by omega) (by omega) c1 c2 _ _ e2 (show dH _ _ c = _ from rfl)
  rw [show 10 * (m / 10) + m % 10 = m by omega, show 10 * (n / 10) + n % 10 = n by omega] at h
  exact ⟨dec_eq h.1, ofInt_eq h.2⟩
theorem carry_cmp (X Y : BitVec 8) (c : Bool) : (addV X (~~~Y) c).c = decide (0 ≤ u8 X - u8 Y - (1 - cnt c)) := by
  show decide (256 ≤ u8 X + u8 (~~~Y) + cnt c) = _
  rw [u8_not_eq]
  exact dec_eq (by omega)
theorem dig_sub (m n : Int) (c : Bool) (h1 : 0 ≤ m) (h2 : m ≤ 99) (h3 : 0 ≤ n) (h4 : n ≤ 99) :
    (subD (BitVec.ofInt 8 (bcd m)) (BitVec.ofInt 8 (bcd n)) c).c = decide (0 ≤ m - n - (1 - cnt c)) ∧ (subD (BitVec.ofInt 8 (bcd m)) (BitVec.ofInt 8 (bcd n)) c).a = BitVec.ofInt 8 (bcd ((m - n - (1 - cnt c) + 100) % 100)) := by
  have c1 := cnt_lo c
  have c2 := cnt_hi c
  have e0 : eL0 (BitVec.ofInt 8 (bcd m)) (BitVec.ofInt 8 (bcd n)) c = m % 10 - n % 10 - (1 - cnt c) := by unfold eL0; rw [lo_bcd m h1 h2, lo_bcd n h3 h4]
  have e1 : eL (BitVec.ofInt 8 (bcd m)) (BitVec.ofInt 8 (bcd n)) c = if m % 10 - n % 10 - (1 - cnt c) < 0 then m % 10 - n % 10 - (1 - cnt c) - 6 else m % 10 - n % 10 - (1 - cnt c) := by
    unfold eL
    rw [e0]
    split
    · omega
    · rfl
  have e2 : eH0 (BitVec.ofInt 8 (bcd m)) (BitVec.ofInt 8 (bcd n)) c = m / 10 * 16 - n / 10 * 16 + if m % 10 - n % 10 - (1 - cnt c) < 0 then m % 10 - n % 10 - (1 - cnt c) - 6 else m % 10 - n % 10 - (1 - cnt c) := by
    unfold eH0
    rw [e1, hi_bcd m h1 h2, hi_bcd n h3 h4]
  refine ⟨(carry_cmp _ _ c).trans ?_, ?_⟩
  · rw [u8_ofInt, u8_ofInt]
    have q1 := bcd_hi m h1 h2
    have q2 := bcd_hi n h3 h4
    have q3 : bcd m % 256 = bcd m := by omega
    have q4 : bcd n % 256 = bcd n := by omega
    rw [q3, q4, bcd_mk m (m / 10) (m % 10) (by omega) (by omega) (by omega), bcd_mk n (n / 10) (n % 10) (by omega) (by omega) (by omega)]
    generalize cnt c = k at *
    exact dec_eq (by omega)
  · have h := sub_plain (m / 10) (m % 10) (n / 10) (n % 10) (cnt c) (by omega) (by omega) (by omega) (by omega) (by omega) (by omega) (by omega) (by omega) c1 c2 _ _ e2 (show eH _ _ c = _ from rfl)
    rw [show 10 * (m / 10) + m % 10 = m by omega, show 10 * (n / 10) + n % 10 = n by omega] at h
    exact ofInt_eq h

set_option maxRecDepth 100000 in
set_option maxHeartbeats 1000000 in
theorem dig_out (m n : Int) (c : Bool) (h : m < 0 ∨ ¬ m < 0 ∧ 99 < m ∨ ¬ m < 0 ∧ ¬ 99 < m ∧ n < 0 ∨ ¬ m < 0 ∧ ¬ 99 < m ∧ ¬ n < 0 ∧ 99 < n) (w : World) :
    Calls Try.prog 8 #[.int .i64 m, .int .i64 n, .bool c] w (LawEnd w) := by
  rcases h with h | ⟨h1, h⟩ | ⟨h1, h2, h⟩ | ⟨h1, h2, h3, h⟩
  all_goals
    go_enter Try.func8, Try.ntmps8
    go_wp2_with fail
    ((with_reducible refine (awake_c _).mono ?_); rintro _ w1 ⟨rfl, hb⟩)
    have hz := hb.size
    (try simp only [World.size_alloc, World.size_setCell, World.size_drew] at hz)
    have hB' : Below w.heap.size w w1 := by
        refine kb ?_ hb
        go_grown
    clear hb hz
    have hB := hB'; clear hB'
    have hsz := hB.size
    go_wp2
    go_ret
    exact ⟨rfl, hB⟩
end Go.Proofs.Ytdmgdldadpkhgaa
