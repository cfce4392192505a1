/-
  What the inner calls of package sums come to: digits, ones below 0, the binary sum.
-/
import Derived.Test.YtdmgdldadpkhgaaVal
import Derived.Test.YtdmgdldadpkhgaaScope
import Derived.Test.YtdmgdldadpkhgaaPlanT
import Derived.Test.YtdmgdldadpkhgaaHeld
import Derived.Lib.Hide
set_option linter.unusedSimpArgs false
set_option linter.unusedVariables false
namespace Go.Proofs.Ytdmgdldadpkhgaa
open Go.RowKit

theorem low_c (n : Int) (h : -64 ≤ n) (h' : n < 512) (w : World) : Calls Try.prog 47 #[.int .i64 n] w fun e w' => e = .returned (.int .i64 (n % 16)) ∧ w = w' := by
  have h1 := and15 n h h'
  go_enter Try.func47, Try.ntmps47
  go_wp2
  go_ret
  exact ⟨rfl, rfl⟩
theorem lowx_c (x : BitVec 8) (w : World) : Calls Try.prog 47 #[.int .i64 (u8 x)] w fun e w' => e = .returned (.int .i64 (lo x)) ∧ w = w' :=
  low_c (u8 x) (by have := u8_lo x; omega) (by have := u8_hi x; omega) w
theorem high_c (x : BitVec 8) (w : World) : Calls Try.prog 48 #[B8 x] w fun e w' => e = .returned (.int .i64 (hi x)) ∧ w = w' := by
  have h1 := u8_lo x
  have h2 := u8_hi x
  have h3 := lo_lo x
  have h4 := lo_hi x
  have h5 : u8 x - lo x = hi x := by unfold lo hi; omega
  go_enter Try.func48, Try.ntmps48
  go_wp2_with (go_at_call 47; ((with_reducible refine (lowx_c _ _).mono ?_); rintro _ _ ⟨rfl, rfl⟩))
  go_ret
  exact ⟨rfl, rfl⟩
theorem signed_c (n : Int) (h : 0 ≤ n) (h' : n < 256) (w : World) : Calls Try.prog 50 #[.int .i64 n] w fun e w' => e = .returned (.int .i64 (sgn n)) ∧ w = w' := by
  by_cases hn : 128 ≤ n
  all_goals
    go_enter Try.func50, Try.ntmps50
    go_wp2
    go_ret
    exact ⟨by simp only [sgn]; (try simp only [hn, if_true, if_false]); (try rfl); (try (rw [if_neg (by omega)]; rfl)), rfl⟩
theorem beyond_c (n : Int) (h : -512 ≤ n) (h' : n < 512) (w : World) : Calls Try.prog 49 #[.int .i64 n] w fun e w' => e = .returned (.bool (bey n)) ∧ w = w' := by
  by_cases h1 : n < -128
  · go_enter Try.func49, Try.ntmps49
    go_wp2
    go_ret
    exact ⟨by simp [bey, h1], rfl⟩
  · by_cases h2 : 128 ≤ n
    all_goals
      go_enter Try.func49, Try.ntmps49
      go_wp2
      go_ret
      exact ⟨by simp only [bey, h1, decide_false, Bool.false_or]; congr 2; (try simp); (try omega), rfl⟩
theorem count_c (c ct : Bool) (w : World) : Calls Try.prog 30 #[TBit c ct] w fun e w' => e = .returned (.int .i64 (cnt c)) ∧ Below w.heap.size w w' := by
  cases c
  all_goals
    go_enter Try.func30, Try.ntmps30
    go_wp2
    go_ret
    exact ⟨rfl, by go_grown⟩
theorem signedx_c (x : BitVec 8) (w : World) : Calls Try.prog 50 #[.int .i64 (u8 x)] w fun e w' => e = .returned (.int .i64 (sgn (u8 x))) ∧ w = w' :=
  signed_c (u8 x) (u8_lo x) (u8_hi x) w
theorem signedh_c (x : BitVec 8) (w : World) : Calls Try.prog 50 #[.int .i64 (hi x)] w fun e w' => e = .returned (.int .i64 (sgn (hi x))) ∧ w = w' :=
  signed_c (hi x) (hi_lo x) (by have := hi_hi x; omega) w

set_option maxHeartbeats 1000000 in
theorem addBits_c (x y : BitVec 8) (c : Bool) (w : World) : Calls Try.prog 31 #[B8 x, B8 y, .int .i64 (cnt c)] w fun e w' => e = .returned (VS (addV x y c) T0) ∧ Below w.heap.size w w' := by
  have x1 := u8_lo x
  have x2 := u8_hi x
  have y1 := u8_lo y
  have y2 := u8_hi y
  have c1 := cnt_lo c
  have c2 := cnt_hi c
  have s1 := sgn_lo (u8 x) x1
  have s2 := sgn_hi (u8 x) x2
  have s3 := sgn_lo (u8 y) y1
  have s4 := sgn_hi (u8 y) y2
  have a1 := and128 (u8 x + u8 y + cnt c) (by omega) (by omega)
  have a2 := neg128 (u8 x + u8 y + cnt c)
  have a3 := u8_beq0
  go_enter Try.func31, Try.ntmps31
  go_wp2_with fail
  ((with_reducible refine (of_c _ _).mono ?_); rintro _ w1 ⟨rfl, hb⟩)
  have T : w1.cell? ⟨w.heap.size, 0, none⟩ = some (.int .u8 0) ∧ w1.frozen? ⟨w.heap.size, 0, none⟩ = false ∧ w1.cell? ⟨w.heap.size, 1, none⟩ = some (.int .u8 0) ∧ w1.frozen? ⟨w.heap.size, 1, none⟩ = false ∧ w1.cell? ⟨w.heap.size, 2, none⟩ = some (.bool false) ∧ w1.frozen? ⟨w.heap.size, 2, none⟩ = false ∧ w1.cell? ⟨w.heap.size, 3, none⟩ = some (.bool false) ∧ w1.frozen? ⟨w.heap.size, 3, none⟩ = false ∧ w1.cell? ⟨w.heap.size, 4, none⟩ = some (.bool false) ∧ w1.frozen? ⟨w.heap.size, 4, none⟩ = false ∧ w1.cell? ⟨w.heap.size, 5, none⟩ = some (.bool false) ∧ w1.frozen? ⟨w.heap.size, 5, none⟩ = false ∧ w1.cell? ⟨w.heap.size, 6, none⟩ = some (.bool false) ∧ w1.frozen? ⟨w.heap.size, 6, none⟩ = false ∧ w1.cell? ⟨w.heap.size, 7, none⟩ = some (.bool false) ∧ w1.frozen? ⟨w.heap.size, 7, none⟩ = false ∧ w1.cell? ⟨w.heap.size, 8, none⟩ = some (.bool false) ∧ w1.frozen? ⟨w.heap.size, 8, none⟩ = false ∧ w1.cell? ⟨w.heap.size, 9, none⟩ = some (.bool false) ∧ w1.frozen? ⟨w.heap.size, 9, none⟩ = false := by
      refine ⟨?_, ?_, ?_, ?_, ?_, ?_, ?_, ?_, ?_, ?_, ?_, ?_, ?_, ?_, ?_, ?_, ?_, ?_, ?_, ?_⟩ <;> first | (refine kc hb ?_ <;> (go_simp; first | done | rfl)) | (refine kfz hb ?_ ?_ <;> first | (go_size; done) | (go_simp; done))
  have hz := hb.size
  (try simp only [World.size_alloc, World.size_setCell, World.size_drew] at hz)
  have hlr' : w.heap.size < w1.heap.size := by omega
  have hB' : Below w.heap.size w w1 := by
      refine kb ?_ hb
      go_grown
  clear hb hz
  obtain ⟨hr_0, fr_0, hr_1, fr_1, hr_2, fr_2, hr_3, fr_3, hr_4, fr_4, hr_5, fr_5, hr_6, fr_6, hr_7, fr_7, hr_8, fr_8, hr_9, fr_9⟩ := T
  have hlr := hlr'; clear hlr'
  have hnr0 : ¬ (w.heap.size = w1.heap.size) := by omega
  have hnr1 : ¬ (w.heap.size = w1.heap.size + 1) := by omega
  have hkr1 : w.heap.size < w1.heap.size + 1 := by omega
  have hnr2 : ¬ (w.heap.size = w1.heap.size + 1 + 1) := by omega
  have hkr2 : w.heap.size < w1.heap.size + 1 + 1 := by omega
  have hB := hB'; clear hB'
  have hsz := hB.size
  go_upto_region 7 with (first
    | (go_at_call 50; ((with_reducible refine (signedx_c _ _).mono ?_); rintro _ _ ⟨rfl, rfl⟩))
    | (go_at_call 49; ((with_reducible refine (beyond_c (sgn (u8 x) + sgn (u8 y) + cnt c) (by omega) (by omega) _).mono ?_); rintro _ _ ⟨rfl, rfl⟩)))
  refine wp_pin (fun w' => w'.cell? ⟨w.heap.size, 0, none⟩ = some (.int .u8 0) ∧ w'.frozen? ⟨w.heap.size, 0, none⟩ = false ∧ w'.cell? ⟨w.heap.size, 1, none⟩ = some (.int .u8 0) ∧ w'.frozen? ⟨w.heap.size, 1, none⟩ = false ∧ w'.cell? ⟨w.heap.size, 2, none⟩ = some (.bool false) ∧ w'.frozen? ⟨w.heap.size, 2, none⟩ = false ∧ w'.cell? ⟨w.heap.size, 3, none⟩ = some (.bool false) ∧ w'.frozen? ⟨w.heap.size, 3, none⟩ = false ∧ w'.cell? ⟨w.heap.size, 4, none⟩ = some (.bool false) ∧ w'.frozen? ⟨w.heap.size, 4, none⟩ = false ∧ w'.cell? ⟨w.heap.size, 5, none⟩ = some (.bool false) ∧ w'.frozen? ⟨w.heap.size, 5, none⟩ = false ∧ w'.cell? ⟨w.heap.size, 6, none⟩ = some (.bool false) ∧ w'.frozen? ⟨w.heap.size, 6, none⟩ = false ∧ w'.cell? ⟨w.heap.size, 7, none⟩ = some (.bool false) ∧ w'.frozen? ⟨w.heap.size, 7, none⟩ = false ∧ w'.cell? ⟨w.heap.size, 8, none⟩ = some (.bool false) ∧ w'.frozen? ⟨w.heap.size, 8, none⟩ = false ∧ w'.cell? ⟨w.heap.size, 9, none⟩ = some (.bool false) ∧ w'.frozen? ⟨w.heap.size, 9, none⟩ = false ∧ w'.cell? ⟨w1.heap.size, 0, none⟩ = some (.int .u8 (u8 (BitVec.ofInt 8 (u8 x + u8 y + cnt c)))) ∧ w'.cell? ⟨w1.heap.size, 1, none⟩ = some (.int .u8 (u8 0#8)) ∧ w'.cell? ⟨w1.heap.size, 2, none⟩ = some (.bool (nb (u8 x + u8 y + cnt c))) ∧ w'.cell? ⟨w1.heap.size, 3, none⟩ = some (.bool false) ∧ w'.cell? ⟨w1.heap.size, 4, none⟩ = some (.bool (bey (sgn (u8 x) + sgn (u8 y) + cnt c))) ∧ w'.cell? ⟨w1.heap.size, 5, none⟩ = some (.bool false) ∧ w'.cell? ⟨w1.heap.size, 6, none⟩ = some (.bool (BitVec.ofInt 8 (u8 x + u8 y + cnt c) == 0#8)) ∧ w'.cell? ⟨w1.heap.size, 7, none⟩ = some (.bool false) ∧ w'.cell? ⟨w1.heap.size, 8, none⟩ = some (.bool (decide (256 ≤ u8 x + u8 y + cnt c))) ∧ w'.cell? ⟨w1.heap.size, 9, none⟩ = some (.bool false) ∧ Below w.heap.size w w') ?_ ?_
  · (try dsimp only)
    refine ⟨?_, ?_, ?_, ?_, ?_, ?_, ?_, ?_, ?_, ?_, ?_, ?_, ?_, ?_, ?_, ?_, ?_, ?_, ?_, ?_, ?_, ?_, ?_, ?_, ?_, ?_, ?_, ?_, ?_, ?_, ?_⟩ <;> first | (go_simp; done) | (simp [*]; done) | go_grown
  intro w2 T
  (try dsimp only at T)
  clear hr_0 fr_0 hr_1 fr_1 hr_2 fr_2 hr_3 fr_3 hr_4 fr_4 hr_5 fr_5 hr_6 fr_6 hr_7 fr_7 hr_8 fr_8 hr_9 fr_9 hlr hnr0 hnr1 hkr1 hnr2 hkr2 hB hsz
  obtain ⟨hr_0, fr_0, hr_1, fr_1, hr_2, fr_2, hr_3, fr_3, hr_4, fr_4, hr_5, fr_5, hr_6, fr_6, hr_7, fr_7, hr_8, fr_8, hr_9, fr_9, hs_0, hs_1, hs_2, hs_3, hs_4, hs_5, hs_6, hs_7, hs_8, hs_9, hB⟩ := T
  have hsz := hB.size
  have hlr := klt hr_0
  have hls := klt hs_0
  have hnr0 : ¬ (w.heap.size = w2.heap.size) := by omega
  have hnr1 : ¬ (w.heap.size = w2.heap.size + 1) := by omega
  have hkr1 : w.heap.size < w2.heap.size + 1 := by omega
  have hnr2 : ¬ (w.heap.size = w2.heap.size + 1 + 1) := by omega
  have hkr2 : w.heap.size < w2.heap.size + 1 + 1 := by omega
  have hns0 : ¬ (w1.heap.size = w2.heap.size) := by omega
  have hns1 : ¬ (w1.heap.size = w2.heap.size + 1) := by omega
  have hks1 : w1.heap.size < w2.heap.size + 1 := by omega
  have hns2 : ¬ (w1.heap.size = w2.heap.size + 1 + 1) := by omega
  have hks2 : w1.heap.size < w2.heap.size + 1 + 1 := by omega
  clear a1 a2 a3 s1 s2 s3 s4 x1 x2 y1 y2 c1 c2
  go_wp2
  refine bodyPost_ret (v := VS (addV x y c) T0) (by simp [results, Try.results31, go_sem, hr_0, hr_1, hr_2, hr_3, hr_4, hr_5, hr_6, hr_7, hr_8, hr_9, addV, sumB, T0] <;> first | done | rfl | exact dec_eq Iff.rfl) rfl ⟨rfl, by go_grown⟩

end Go.Proofs.Ytdmgdldadpkhgaa
