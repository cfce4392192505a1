/-
  TimerRings: its walk.
-/
import Derived.Test.YtcpegglfgfgekaaAwake10
import Derived.Test.YtcpegglfgfgekaaRings10
set_option linter.unusedSimpArgs false
set_option linter.unusedVariables false
namespace Go.Proofs.Ytcpegglfgfgekaa
open Go.RowKit Go.PlainAid

theorem rings_bad (L t : Int) (h : ¬ (0 ≤ L ∧ L ≤ 65535 ∧ 1 ≤ t ∧ t ≤ 1000)) : decide (L < 0) = true ∨ decide (L < 0) = false ∧ (decide (65535 < L) = true ∨ decide (65535 < L) = false ∧ (decide (t < 1) = true ∨ decide (t < 1) = false ∧ decide (1000 < t) = true)) := by
  simp only [decide_eq_true_eq, decide_eq_false_iff_not]
  omega
theorem rings_hi (L t : Int) (hL : 0 ≤ L ∧ L ≤ 65535) (ht : 1 ≤ t ∧ t ≤ 1000) : (L + 1) * t ≤ 65536000 := by
  have h1 : (L + 1) * t ≤ 65536 * t := Int.mul_le_mul_of_nonneg_right (by omega) (by omega)
  omega
set_option maxRecDepth 100000 in
set_option maxHeartbeats 4000000 in
theorem rings_walk (L : Int) (hi : -9223372036854775808 ≤ L ∧ L ≤ 9223372036854775807) (t : Int) (hi2 : -9223372036854775808 ≤ t ∧ t ≤ 9223372036854775807) (again : Bool) (w : World) :
    Calls Try.prog 6 #[.int .i64 L, .int .i64 t, .bool again] w fun e w' => e = .returned (.bool true) ∧ Below w.heap.size w w' := by
  by_cases hg : 0 ≤ L ∧ L ≤ 65535 ∧ 1 ≤ t ∧ t ≤ 1000
  case neg =>
    have hd := rings_bad L t hg
    clear hg hi hi2
    rcases hd with d1 | ⟨d1, d2 | ⟨d2, d3 | ⟨d3, d4⟩⟩⟩
    all_goals
      go_enter Try.func6, Try.ntmps6
      go_wp2_with fail
      ((with_reducible refine (awake10_c _).mono ?_); rintro _ u1 ⟨rfl, hb⟩)
      have hz := hb.size
      (try simp only [World.size_alloc, World.size_setCell, World.size_drew] at hz)
      have hB' : Below w.heap.size w u1 := by
          refine kb ?_ hb
          go_grown
      clear hb hz
      have hB := hB'; clear hB'
      have hsz := hB.size
      go_wp2
      go_ret
      exact ⟨rfl, by go_grown⟩
  case pos =>
    obtain ⟨hL0, hL1, ht0, ht1⟩ := hg
    have d1 : decide (L < 0) = false := by simp; omega
    have d2 : decide (65535 < L) = false := by simp; omega
    have d3 : decide (t < 1) = false := by simp; omega
    have d4 : decide (1000 < t) = false := by simp; omega
    have RF := Lib.hid (rings_facts L t again ⟨hL0, hL1⟩ ht0)
    have hlo := rounds_le L t hL0 ht0
    have hhi := rings_hi L t ⟨hL0, hL1⟩ ⟨ht0, ht1⟩
    obtain ⟨N, hN⟩ : ∃ N, (L + 1) * t = N := ⟨_, rfl⟩
    rw [hN] at RF hlo hhi
    have HA1 := Lib.hid (fun W => afterp_c ⟨L, L, true, again, true, false⟩ (N - 1) ⟨⟨hL0, by dsimp only; omega⟩, hL0, by dsimp only; omega⟩ (by omega) (by omega) W)
    have HA2 := Lib.hid (fun W => afterp_c ⟨L, L, true, again, true, false⟩ N ⟨⟨hL0, by dsimp only; omega⟩, hL0, by dsimp only; omega⟩ (by omega) (by omega) W)
    generalize afterT ⟨L, L, true, again, true, false⟩ (N - 1) = U at *
    generalize afterT ⟨L, L, true, again, true, false⟩ N = V at *
    dsimp only at HA1 HA2
    have HIU := Lib.hid (fun tb W h => irqp_c tb 0 U W h)
    have HIV := Lib.hid (fun tb W h => irqp_c tb 0 V W h)
    rw [RF.out.j] at HIU
    rw [RF.out.i] at HIV
    have hz : (⟨0, 0, false, false, false, false⟩ : Tm).May := ⟨⟨by decide, by decide⟩, by decide, by decide⟩
    have HW0 := Lib.hid (fun tb W h => writep_x 0 (L % 256) (by omega) tb 0 ⟨0, 0, false, false, false, false⟩ hz W h)
    rw [show writeT ⟨0, 0, false, false, false, false⟩ 0 (L % 256) = ⟨L % 256, 0, false, false, false, false⟩ by simp [writeT], show regE 0 = 0 from rfl] at HW0
    have HW1 := Lib.hid (fun tb W h => writep_x 1 (L / 256) (by omega) tb 0 ⟨L % 256, 0, false, false, false, false⟩ ⟨⟨by dsimp only; omega, by dsimp only; omega⟩, by dsimp only; omega, by dsimp only; omega⟩ W h)
    rw [show writeT ⟨L % 256, 0, false, false, false, false⟩ 1 (L / 256) = ⟨L, 0, false, false, false, false⟩ from by
      show (⟨L % 256 % 256 + 256 * (L / 256), 0, false, false, false, false⟩ : Tm) = _
      rw [show L % 256 % 256 + 256 * (L / 256) = L by omega], show regE 1 = 0 from rfl] at HW1
    have HW2 := Lib.hid (fun tb W h => writep_x 2 (if again then 7 else 5) (by cases again <;> decide) tb 0 ⟨L, 0, false, false, false, false⟩ ⟨⟨hL0, by dsimp only; omega⟩, by dsimp only; omega, by dsimp only; omega⟩ W h)
    rw [show writeT ⟨L, 0, false, false, false, false⟩ 2 (if again then 7 else 5) = ⟨L, L, true, again, true, false⟩ by cases again <;> rfl, show regE 2 = 0 from rfl] at HW2
    have hp3 : 0 ≤ L % 256 ∧ L % 256 ≤ 255 := by omega
    have hq3 : 0 ≤ L / 256 ∧ L / 256 ≤ 255 := by omega
    obtain ⟨p, hp⟩ : ∃ p, L % 256 = p := ⟨_, rfl⟩
    obtain ⟨q, hq⟩ : ∃ p, L / 256 = p := ⟨_, rfl⟩
    rw [hp] at HW0 HW1 hp3
    rw [hq] at HW1 hq3
    have hp2 : p % 256 = p := by omega
    have hq2 : q % 256 = q := by omega
    have hwN : IntKind.i64.wrap N = N := IntWalk.i64_in _ (by omega)
    have hRA := RF.out.a
    have hRB := RF.out.b
    clear RF hz hi hi2
    cases again
    · have r0 := hRB rfl
      clear hRA hRB
      rw [if_neg (by decide)] at HW2
      go_enter Try.func6, Try.ntmps6
      go_wp2_with fail
      ((with_reducible refine (HW0.out _ _ (Tw.mk0 (by go_simp) (by go_simp) (by go_simp) (by go_simp) (by go_simp) (by go_simp) (by go_simp) (by go_simp) (by go_simp) (by go_simp) (by go_simp) (by go_simp))).mono ?_); rintro _ u1 ⟨rfl, hb, hT⟩)
      have hs_u1 := Lib.hid hb
      have hz := hb.size
      (try simp only [World.size_alloc, World.size_setCell, World.size_drew] at hz)
      have hB' : Below w.heap.size w u1 := by
          refine below_grown2 ?_ hb (by omega)
          go_grown
      clear hb hz
      have hB := hB'; clear hB'
      have hsz := hB.size
      have hltt := hT.lt
      obtain ⟨ht1_0, ht1_1, ht1_2, ht1_3, ht1_4, ht1_5⟩ := hT.at0
      obtain ⟨ft1_0, ft1_1, ft1_2, ft1_3, ft1_4, ft1_5⟩ := hT.free0
      dsimp only at ht1_0 ht1_1 ht1_2 ht1_3 ht1_4 ht1_5
      clear hT
      go_wp2_with fail
      ((with_reducible refine (HW1.out _ _ (Tw.mk0 (by go_simp) (by go_simp) (by go_simp) (by go_simp) (by go_simp) (by go_simp) (by go_simp) (by go_simp) (by go_simp) (by go_simp) (by go_simp) (by go_simp))).mono ?_); rintro _ u2 ⟨rfl, hb, hT⟩)
      have hs_u2 := Lib.hid hb
      have hz := hb.size
      (try simp only [World.size_alloc, World.size_setCell, World.size_drew] at hz)
      have hB' : Below w.heap.size w u2 := by
          refine below_grown2 ?_ hb (by omega)
          go_grown
      clear hB hsz
      clear hb hz
      have hB := hB'; clear hB'
      have hsz := hB.size
      clear ht1_0 ht1_1 ht1_2 ht1_3 ht1_4 ht1_5 ft1_0 ft1_1 ft1_2 ft1_3 ft1_4 ft1_5 hltt
      have hltt := hT.lt
      obtain ⟨ht2_0, ht2_1, ht2_2, ht2_3, ht2_4, ht2_5⟩ := hT.at0
      obtain ⟨ft2_0, ft2_1, ft2_2, ft2_3, ft2_4, ft2_5⟩ := hT.free0
      dsimp only at ht2_0 ht2_1 ht2_2 ht2_3 ht2_4 ht2_5
      clear hT
      go_wp2_with fail
      ((with_reducible refine (HW2.out _ _ (Tw.mk0 (by go_simp) (by go_simp) (by go_simp) (by go_simp) (by go_simp) (by go_simp) (by go_simp) (by go_simp) (by go_simp) (by go_simp) (by go_simp) (by go_simp))).mono ?_); rintro _ u3 ⟨rfl, hb, hT⟩)
      have hs_u3 := Lib.hid hb
      have hz := hb.size
      (try simp only [World.size_alloc, World.size_setCell, World.size_drew] at hz)
      have hB' : Below w.heap.size w u3 := by
          refine below_grown2 ?_ hb (by omega)
          go_grown
      clear hB hsz
      clear hb hz
      have hB := hB'; clear hB'
      have hsz := hB.size
      clear ht2_0 ht2_1 ht2_2 ht2_3 ht2_4 ht2_5 ft2_0 ft2_1 ft2_2 ft2_3 ft2_4 ft2_5 hltt
      have hltt := hT.lt
      obtain ⟨ht3_0, ht3_1, ht3_2, ht3_3, ht3_4, ht3_5⟩ := hT.at0
      obtain ⟨ft3_0, ft3_1, ft3_2, ft3_3, ft3_4, ft3_5⟩ := hT.free0
      dsimp only at ht3_0 ht3_1 ht3_2 ht3_3 ht3_4 ht3_5
      clear hT
      go_wp2_with fail
      ((with_reducible refine (HA1.out _).mono ?_); rintro _ u4 ⟨rfl, hb⟩)
      have T : CF u4 w.heap.size 0 (.int .i64 L) ∧ CF u4 w.heap.size 1 (.int .i64 L) ∧ CF u4 w.heap.size 2 (.bool true) ∧ CF u4 w.heap.size 3 (.bool false) ∧ CF u4 w.heap.size 4 (.bool true) ∧ CF u4 w.heap.size 5 (.bool false) := by
          refine ⟨⟨?_, ?_⟩, ⟨?_, ?_⟩, ⟨?_, ?_⟩, ⟨?_, ?_⟩, ⟨?_, ?_⟩, ⟨?_, ?_⟩⟩ <;> first | (refine kc hb ?_ <;> (go_simp; first | done | rfl)) | (refine kfz hb ?_ ?_ <;> first | (go_size; done) | (go_simp; done))
      have hz := hb.size
      (try simp only [World.size_alloc, World.size_setCell, World.size_drew] at hz)
      have L : w.heap.size < u4.heap.size := by omega
      have hB' : Below w.heap.size w u4 := by
          refine kb ?_ hb
          go_grown
      clear hB hsz
      clear hb hz
      obtain ⟨⟨ht3_0, ft3_0⟩, ⟨ht3_1, ft3_1⟩, ⟨ht3_2, ft3_2⟩, ⟨ht3_3, ft3_3⟩, ⟨ht3_4, ft3_4⟩, ⟨ht3_5, ft3_5⟩⟩ := T
      have hlt3 := L; clear L
      obtain ⟨hnt30, hnt31, hkt31, hnt32, hkt32⟩ := ap0 hlt3
      have hB := hB'; clear hB'
      have hsz := hB.size
      go_wp2_with fail
      ((with_reducible refine (HA2.out _).mono ?_); rintro _ u5 ⟨rfl, hb⟩)
      have T : CF u5 u4.heap.size 0 (.int .i64 U.l) ∧ CF u5 u4.heap.size 1 (.int .i64 U.c) ∧ CF u5 u4.heap.size 2 (.bool U.r) ∧ CF u5 u4.heap.size 3 (.bool U.a) ∧ CF u5 u4.heap.size 4 (.bool U.s) ∧ CF u5 u4.heap.size 5 (.bool U.g) := by
          refine ⟨⟨?_, ?_⟩, ⟨?_, ?_⟩, ⟨?_, ?_⟩, ⟨?_, ?_⟩, ⟨?_, ?_⟩, ⟨?_, ?_⟩⟩ <;> first | (refine kc hb ?_ <;> (go_simp; first | done | rfl)) | (refine kfz hb ?_ ?_ <;> first | (go_size; done) | (go_simp; done))
      have hz := hb.size
      (try simp only [World.size_alloc, World.size_setCell, World.size_drew] at hz)
      have L : u4.heap.size < u5.heap.size := by omega
      have hB' : Below w.heap.size w u5 := by
          refine kb ?_ hb
          go_grown
      clear ht3_0 ft3_0 ht3_1 ft3_1 ht3_2 ft3_2 ht3_3 ft3_3 ht3_4 ft3_4 ht3_5 ft3_5 hlt3 hnt30 hnt31 hkt31 hnt32 hkt32 hB hsz
      clear hb hz
      obtain ⟨⟨hu_0, fu_0⟩, ⟨hu_1, fu_1⟩, ⟨hu_2, fu_2⟩, ⟨hu_3, fu_3⟩, ⟨hu_4, fu_4⟩, ⟨hu_5, fu_5⟩⟩ := T
      have hlu := L; clear L
      obtain ⟨hnu0, hnu1, hku1, hnu2, hku2⟩ := ap0 hlu
      have hB := hB'; clear hB'
      have hsz := hB.size
      go_wp2_with fail
      ((with_reducible refine (HIV.out _ _ (Tw.mk0 (by go_simp) (by go_simp) (by go_simp) (by go_simp) (by go_simp) (by go_simp) (by go_simp) (by go_simp) (by go_simp) (by go_simp) (by go_simp) (by go_simp))).mono ?_); rintro _ u6 ⟨rfl, hb⟩)
      have T : CF u6 u4.heap.size 0 (.int .i64 U.l) ∧ CF u6 u4.heap.size 1 (.int .i64 U.c) ∧ CF u6 u4.heap.size 2 (.bool U.r) ∧ CF u6 u4.heap.size 3 (.bool U.a) ∧ CF u6 u4.heap.size 4 (.bool U.s) ∧ CF u6 u4.heap.size 5 (.bool U.g) ∧ CF u6 u5.heap.size 0 (.int .i64 V.l) ∧ CF u6 u5.heap.size 1 (.int .i64 V.c) ∧ CF u6 u5.heap.size 2 (.bool V.r) ∧ CF u6 u5.heap.size 3 (.bool V.a) ∧ CF u6 u5.heap.size 4 (.bool V.s) ∧ CF u6 u5.heap.size 5 (.bool V.g) := by
          refine ⟨⟨?_, ?_⟩, ⟨?_, ?_⟩, ⟨?_, ?_⟩, ⟨?_, ?_⟩, ⟨?_, ?_⟩, ⟨?_, ?_⟩, ⟨?_, ?_⟩, ⟨?_, ?_⟩, ⟨?_, ?_⟩, ⟨?_, ?_⟩, ⟨?_, ?_⟩, ⟨?_, ?_⟩⟩ <;> first | (refine kc hb ?_ <;> (go_simp; first | done | rfl)) | (refine kfz hb ?_ ?_ <;> first | (go_size; done) | (go_simp; done))
      have hz := hb.size
      (try simp only [World.size_alloc, World.size_setCell, World.size_drew] at hz)
      have L : u4.heap.size < u6.heap.size ∧ u5.heap.size < u6.heap.size := by omega
      have hB' : Below w.heap.size w u6 := by
          refine kb ?_ hb
          go_grown
      clear hu_0 fu_0 hu_1 fu_1 hu_2 fu_2 hu_3 fu_3 hu_4 fu_4 hu_5 fu_5 hlu hnu0 hnu1 hku1 hnu2 hku2 hB hsz
      clear hb hz
      obtain ⟨⟨hu_0, fu_0⟩, ⟨hu_1, fu_1⟩, ⟨hu_2, fu_2⟩, ⟨hu_3, fu_3⟩, ⟨hu_4, fu_4⟩, ⟨hu_5, fu_5⟩, ⟨hv_0, fv_0⟩, ⟨hv_1, fv_1⟩, ⟨hv_2, fv_2⟩, ⟨hv_3, fv_3⟩, ⟨hv_4, fv_4⟩, ⟨hv_5, fv_5⟩⟩ := T
      obtain ⟨hlu, hlv⟩ := L
      obtain ⟨hnu0, hnu1, hku1, hnu2, hku2⟩ := ap0 hlu
      obtain ⟨hnv0, hnv1, hkv1, hnv2, hkv2⟩ := ap0 hlv
      have hB := hB'; clear hB'
      have hsz := hB.size
      go_wp2_with fail
      ((with_reducible refine (HIU.out _ _ (Tw.mk0 (by go_simp) (by go_simp) (by go_simp) (by go_simp) (by go_simp) (by go_simp) (by go_simp) (by go_simp) (by go_simp) (by go_simp) (by go_simp) (by go_simp))).mono ?_); rintro _ u7 ⟨rfl, hb⟩)
      have T : CF u7 u4.heap.size 0 (.int .i64 U.l) ∧ CF u7 u4.heap.size 1 (.int .i64 U.c) ∧ CF u7 u4.heap.size 2 (.bool U.r) ∧ CF u7 u4.heap.size 3 (.bool U.a) ∧ CF u7 u4.heap.size 4 (.bool U.s) ∧ CF u7 u4.heap.size 5 (.bool U.g) ∧ CF u7 u5.heap.size 0 (.int .i64 V.l) ∧ CF u7 u5.heap.size 1 (.int .i64 V.c) ∧ CF u7 u5.heap.size 2 (.bool V.r) ∧ CF u7 u5.heap.size 3 (.bool V.a) ∧ CF u7 u5.heap.size 4 (.bool V.s) ∧ CF u7 u5.heap.size 5 (.bool V.g) := by
          refine ⟨⟨?_, ?_⟩, ⟨?_, ?_⟩, ⟨?_, ?_⟩, ⟨?_, ?_⟩, ⟨?_, ?_⟩, ⟨?_, ?_⟩, ⟨?_, ?_⟩, ⟨?_, ?_⟩, ⟨?_, ?_⟩, ⟨?_, ?_⟩, ⟨?_, ?_⟩, ⟨?_, ?_⟩⟩ <;> first | (refine kc hb ?_ <;> (go_simp; first | done | rfl)) | (refine kfz hb ?_ ?_ <;> first | (go_size; done) | (go_simp; done))
      have hz := hb.size
      (try simp only [World.size_alloc, World.size_setCell, World.size_drew] at hz)
      have L : u4.heap.size < u7.heap.size ∧ u5.heap.size < u7.heap.size := by omega
      have hB' : Below w.heap.size w u7 := by
          refine kb ?_ hb
          go_grown
      clear hu_0 fu_0 hu_1 fu_1 hu_2 fu_2 hu_3 fu_3 hu_4 fu_4 hu_5 fu_5 hv_0 fv_0 hv_1 fv_1 hv_2 fv_2 hv_3 fv_3 hv_4 fv_4 hv_5 fv_5 hlu hlv hnu0 hnu1 hku1 hnu2 hku2 hnv0 hnv1 hkv1 hnv2 hkv2 hB hsz
      clear hb hz
      obtain ⟨⟨hu_0, fu_0⟩, ⟨hu_1, fu_1⟩, ⟨hu_2, fu_2⟩, ⟨hu_3, fu_3⟩, ⟨hu_4, fu_4⟩, ⟨hu_5, fu_5⟩, ⟨hv_0, fv_0⟩, ⟨hv_1, fv_1⟩, ⟨hv_2, fv_2⟩, ⟨hv_3, fv_3⟩, ⟨hv_4, fv_4⟩, ⟨hv_5, fv_5⟩⟩ := T
      obtain ⟨hlu, hlv⟩ := L
      obtain ⟨hnu0, hnu1, hku1, hnu2, hku2⟩ := ap0 hlu
      obtain ⟨hnv0, hnv1, hkv1, hnv2, hkv2⟩ := ap0 hlv
      have hB := hB'; clear hB'
      have hsz := hB.size
      go_wp2_with fail
      ((with_reducible refine (awake10_c _).mono ?_); rintro _ u8 ⟨rfl, hb⟩)
      have T : CF u8 u4.heap.size 0 (.int .i64 U.l) ∧ CF u8 u4.heap.size 1 (.int .i64 U.c) ∧ CF u8 u4.heap.size 2 (.bool U.r) ∧ CF u8 u4.heap.size 3 (.bool U.a) ∧ CF u8 u4.heap.size 4 (.bool U.s) ∧ CF u8 u4.heap.size 5 (.bool U.g) ∧ CF u8 u5.heap.size 0 (.int .i64 V.l) ∧ CF u8 u5.heap.size 1 (.int .i64 V.c) ∧ CF u8 u5.heap.size 2 (.bool V.r) ∧ CF u8 u5.heap.size 3 (.bool V.a) ∧ CF u8 u5.heap.size 4 (.bool V.s) ∧ CF u8 u5.heap.size 5 (.bool V.g) := by
          refine ⟨⟨?_, ?_⟩, ⟨?_, ?_⟩, ⟨?_, ?_⟩, ⟨?_, ?_⟩, ⟨?_, ?_⟩, ⟨?_, ?_⟩, ⟨?_, ?_⟩, ⟨?_, ?_⟩, ⟨?_, ?_⟩, ⟨?_, ?_⟩, ⟨?_, ?_⟩, ⟨?_, ?_⟩⟩ <;> first | (refine kc hb ?_ <;> (go_simp; first | done | rfl)) | (refine kfz hb ?_ ?_ <;> first | (go_size; done) | (go_simp; done))
      have hz := hb.size
      (try simp only [World.size_alloc, World.size_setCell, World.size_drew] at hz)
      have L : u4.heap.size < u8.heap.size ∧ u5.heap.size < u8.heap.size := by omega
      have hB' : Below w.heap.size w u8 := by
          refine kb ?_ hb
          go_grown
      clear hu_0 fu_0 hu_1 fu_1 hu_2 fu_2 hu_3 fu_3 hu_4 fu_4 hu_5 fu_5 hv_0 fv_0 hv_1 fv_1 hv_2 fv_2 hv_3 fv_3 hv_4 fv_4 hv_5 fv_5 hlu hlv hnu0 hnu1 hku1 hnu2 hku2 hnv0 hnv1 hkv1 hnv2 hkv2 hB hsz
      clear hb hz
      obtain ⟨⟨hu_0, fu_0⟩, ⟨hu_1, fu_1⟩, ⟨hu_2, fu_2⟩, ⟨hu_3, fu_3⟩, ⟨hu_4, fu_4⟩, ⟨hu_5, fu_5⟩, ⟨hv_0, fv_0⟩, ⟨hv_1, fv_1⟩, ⟨hv_2, fv_2⟩, ⟨hv_3, fv_3⟩, ⟨hv_4, fv_4⟩, ⟨hv_5, fv_5⟩⟩ := T
      obtain ⟨hlu, hlv⟩ := L
      obtain ⟨hnu0, hnu1, hku1, hnu2, hku2⟩ := ap0 hlu
      obtain ⟨hnv0, hnv1, hkv1, hnv2, hkv2⟩ := ap0 hlv
      have hB := hB'; clear hB'
      have hsz := hB.size
      go_wp2
      go_ret
      exact ⟨rfl, by go_grown⟩
    · obtain ⟨r1, r2, r3, r4⟩ := hRA rfl
      clear hRA hRB
      rw [if_pos rfl] at HW2
      go_enter Try.func6, Try.ntmps6
      go_wp2_with fail
      ((with_reducible refine (HW0.out _ _ (Tw.mk0 (by go_simp) (by go_simp) (by go_simp) (by go_simp) (by go_simp) (by go_simp) (by go_simp) (by go_simp) (by go_simp) (by go_simp) (by go_simp) (by go_simp))).mono ?_); rintro _ u1 ⟨rfl, hb, hT⟩)
      have hs_u1 := Lib.hid hb
      have hz := hb.size
      (try simp only [World.size_alloc, World.size_setCell, World.size_drew] at hz)
      have hB' : Below w.heap.size w u1 := by
          refine below_grown2 ?_ hb (by omega)
          go_grown
      clear hb hz
      have hB := hB'; clear hB'
      have hsz := hB.size
      have hltt := hT.lt
      obtain ⟨ht1_0, ht1_1, ht1_2, ht1_3, ht1_4, ht1_5⟩ := hT.at0
      obtain ⟨ft1_0, ft1_1, ft1_2, ft1_3, ft1_4, ft1_5⟩ := hT.free0
      dsimp only at ht1_0 ht1_1 ht1_2 ht1_3 ht1_4 ht1_5
      clear hT
      go_wp2_with fail
      ((with_reducible refine (HW1.out _ _ (Tw.mk0 (by go_simp) (by go_simp) (by go_simp) (by go_simp) (by go_simp) (by go_simp) (by go_simp) (by go_simp) (by go_simp) (by go_simp) (by go_simp) (by go_simp))).mono ?_); rintro _ u2 ⟨rfl, hb, hT⟩)
      have hs_u2 := Lib.hid hb
      have hz := hb.size
      (try simp only [World.size_alloc, World.size_setCell, World.size_drew] at hz)
      have hB' : Below w.heap.size w u2 := by
          refine below_grown2 ?_ hb (by omega)
          go_grown
      clear hB hsz
      clear hb hz
      have hB := hB'; clear hB'
      have hsz := hB.size
      clear ht1_0 ht1_1 ht1_2 ht1_3 ht1_4 ht1_5 ft1_0 ft1_1 ft1_2 ft1_3 ft1_4 ft1_5 hltt
      have hltt := hT.lt
      obtain ⟨ht2_0, ht2_1, ht2_2, ht2_3, ht2_4, ht2_5⟩ := hT.at0
      obtain ⟨ft2_0, ft2_1, ft2_2, ft2_3, ft2_4, ft2_5⟩ := hT.free0
      dsimp only at ht2_0 ht2_1 ht2_2 ht2_3 ht2_4 ht2_5
      clear hT
      go_wp2_with fail
      ((with_reducible refine (HW2.out _ _ (Tw.mk0 (by go_simp) (by go_simp) (by go_simp) (by go_simp) (by go_simp) (by go_simp) (by go_simp) (by go_simp) (by go_simp) (by go_simp) (by go_simp) (by go_simp))).mono ?_); rintro _ u3 ⟨rfl, hb, hT⟩)
      have hs_u3 := Lib.hid hb
      have hz := hb.size
      (try simp only [World.size_alloc, World.size_setCell, World.size_drew] at hz)
      have hB' : Below w.heap.size w u3 := by
          refine below_grown2 ?_ hb (by omega)
          go_grown
      clear hB hsz
      clear hb hz
      have hB := hB'; clear hB'
      have hsz := hB.size
      clear ht2_0 ht2_1 ht2_2 ht2_3 ht2_4 ht2_5 ft2_0 ft2_1 ft2_2 ft2_3 ft2_4 ft2_5 hltt
      have hltt := hT.lt
      obtain ⟨ht3_0, ht3_1, ht3_2, ht3_3, ht3_4, ht3_5⟩ := hT.at0
      obtain ⟨ft3_0, ft3_1, ft3_2, ft3_3, ft3_4, ft3_5⟩ := hT.free0
      dsimp only at ht3_0 ht3_1 ht3_2 ht3_3 ht3_4 ht3_5
      clear hT
      go_wp2_with fail
      ((with_reducible refine (HA1.out _).mono ?_); rintro _ u4 ⟨rfl, hb⟩)
      have T : CF u4 w.heap.size 0 (.int .i64 L) ∧ CF u4 w.heap.size 1 (.int .i64 L) ∧ CF u4 w.heap.size 2 (.bool true) ∧ CF u4 w.heap.size 3 (.bool true) ∧ CF u4 w.heap.size 4 (.bool true) ∧ CF u4 w.heap.size 5 (.bool false) := by
          refine ⟨⟨?_, ?_⟩, ⟨?_, ?_⟩, ⟨?_, ?_⟩, ⟨?_, ?_⟩, ⟨?_, ?_⟩, ⟨?_, ?_⟩⟩ <;> first | (refine kc hb ?_ <;> (go_simp; first | done | rfl)) | (refine kfz hb ?_ ?_ <;> first | (go_size; done) | (go_simp; done))
      have hz := hb.size
      (try simp only [World.size_alloc, World.size_setCell, World.size_drew] at hz)
      have L : w.heap.size < u4.heap.size := by omega
      have hB' : Below w.heap.size w u4 := by
          refine kb ?_ hb
          go_grown
      clear hB hsz
      clear hb hz
      obtain ⟨⟨ht3_0, ft3_0⟩, ⟨ht3_1, ft3_1⟩, ⟨ht3_2, ft3_2⟩, ⟨ht3_3, ft3_3⟩, ⟨ht3_4, ft3_4⟩, ⟨ht3_5, ft3_5⟩⟩ := T
      have hlt3 := L; clear L
      obtain ⟨hnt30, hnt31, hkt31, hnt32, hkt32⟩ := ap0 hlt3
      have hB := hB'; clear hB'
      have hsz := hB.size
      go_wp2_with fail
      ((with_reducible refine (HA2.out _).mono ?_); rintro _ u5 ⟨rfl, hb⟩)
      have T : CF u5 u4.heap.size 0 (.int .i64 U.l) ∧ CF u5 u4.heap.size 1 (.int .i64 U.c) ∧ CF u5 u4.heap.size 2 (.bool U.r) ∧ CF u5 u4.heap.size 3 (.bool U.a) ∧ CF u5 u4.heap.size 4 (.bool U.s) ∧ CF u5 u4.heap.size 5 (.bool U.g) := by
          refine ⟨⟨?_, ?_⟩, ⟨?_, ?_⟩, ⟨?_, ?_⟩, ⟨?_, ?_⟩, ⟨?_, ?_⟩, ⟨?_, ?_⟩⟩ <;> first | (refine kc hb ?_ <;> (go_simp; first | done | rfl)) | (refine kfz hb ?_ ?_ <;> first | (go_size; done) | (go_simp; done))
      have hz := hb.size
      (try simp only [World.size_alloc, World.size_setCell, World.size_drew] at hz)
      have L : u4.heap.size < u5.heap.size := by omega
      have hB' : Below w.heap.size w u5 := by
          refine kb ?_ hb
          go_grown
      clear ht3_0 ft3_0 ht3_1 ft3_1 ht3_2 ft3_2 ht3_3 ft3_3 ht3_4 ft3_4 ht3_5 ft3_5 hlt3 hnt30 hnt31 hkt31 hnt32 hkt32 hB hsz
      clear hb hz
      obtain ⟨⟨hu_0, fu_0⟩, ⟨hu_1, fu_1⟩, ⟨hu_2, fu_2⟩, ⟨hu_3, fu_3⟩, ⟨hu_4, fu_4⟩, ⟨hu_5, fu_5⟩⟩ := T
      have hlu := L; clear L
      obtain ⟨hnu0, hnu1, hku1, hnu2, hku2⟩ := ap0 hlu
      have hB := hB'; clear hB'
      have hsz := hB.size
      go_wp2_with fail
      ((with_reducible refine (HIV.out _ _ (Tw.mk0 (by go_simp) (by go_simp) (by go_simp) (by go_simp) (by go_simp) (by go_simp) (by go_simp) (by go_simp) (by go_simp) (by go_simp) (by go_simp) (by go_simp))).mono ?_); rintro _ u6 ⟨rfl, hb⟩)
      have T : CF u6 u4.heap.size 0 (.int .i64 U.l) ∧ CF u6 u4.heap.size 1 (.int .i64 U.c) ∧ CF u6 u4.heap.size 2 (.bool U.r) ∧ CF u6 u4.heap.size 3 (.bool U.a) ∧ CF u6 u4.heap.size 4 (.bool U.s) ∧ CF u6 u4.heap.size 5 (.bool U.g) ∧ CF u6 u5.heap.size 0 (.int .i64 V.l) ∧ CF u6 u5.heap.size 1 (.int .i64 V.c) ∧ CF u6 u5.heap.size 2 (.bool V.r) ∧ CF u6 u5.heap.size 3 (.bool V.a) ∧ CF u6 u5.heap.size 4 (.bool V.s) ∧ CF u6 u5.heap.size 5 (.bool V.g) := by
          refine ⟨⟨?_, ?_⟩, ⟨?_, ?_⟩, ⟨?_, ?_⟩, ⟨?_, ?_⟩, ⟨?_, ?_⟩, ⟨?_, ?_⟩, ⟨?_, ?_⟩, ⟨?_, ?_⟩, ⟨?_, ?_⟩, ⟨?_, ?_⟩, ⟨?_, ?_⟩, ⟨?_, ?_⟩⟩ <;> first | (refine kc hb ?_ <;> (go_simp; first | done | rfl)) | (refine kfz hb ?_ ?_ <;> first | (go_size; done) | (go_simp; done))
      have hz := hb.size
      (try simp only [World.size_alloc, World.size_setCell, World.size_drew] at hz)
      have L : u4.heap.size < u6.heap.size ∧ u5.heap.size < u6.heap.size := by omega
      have hB' : Below w.heap.size w u6 := by
          refine kb ?_ hb
          go_grown
      clear hu_0 fu_0 hu_1 fu_1 hu_2 fu_2 hu_3 fu_3 hu_4 fu_4 hu_5 fu_5 hlu hnu0 hnu1 hku1 hnu2 hku2 hB hsz
      clear hb hz
      obtain ⟨⟨hu_0, fu_0⟩, ⟨hu_1, fu_1⟩, ⟨hu_2, fu_2⟩, ⟨hu_3, fu_3⟩, ⟨hu_4, fu_4⟩, ⟨hu_5, fu_5⟩, ⟨hv_0, fv_0⟩, ⟨hv_1, fv_1⟩, ⟨hv_2, fv_2⟩, ⟨hv_3, fv_3⟩, ⟨hv_4, fv_4⟩, ⟨hv_5, fv_5⟩⟩ := T
      obtain ⟨hlu, hlv⟩ := L
      obtain ⟨hnu0, hnu1, hku1, hnu2, hku2⟩ := ap0 hlu
      obtain ⟨hnv0, hnv1, hkv1, hnv2, hkv2⟩ := ap0 hlv
      have hB := hB'; clear hB'
      have hsz := hB.size
      go_wp2_with fail
      ((with_reducible refine (HIU.out _ _ (Tw.mk0 (by go_simp) (by go_simp) (by go_simp) (by go_simp) (by go_simp) (by go_simp) (by go_simp) (by go_simp) (by go_simp) (by go_simp) (by go_simp) (by go_simp))).mono ?_); rintro _ u7 ⟨rfl, hb⟩)
      have T : CF u7 u4.heap.size 0 (.int .i64 U.l) ∧ CF u7 u4.heap.size 1 (.int .i64 U.c) ∧ CF u7 u4.heap.size 2 (.bool U.r) ∧ CF u7 u4.heap.size 3 (.bool U.a) ∧ CF u7 u4.heap.size 4 (.bool U.s) ∧ CF u7 u4.heap.size 5 (.bool U.g) ∧ CF u7 u5.heap.size 0 (.int .i64 V.l) ∧ CF u7 u5.heap.size 1 (.int .i64 V.c) ∧ CF u7 u5.heap.size 2 (.bool V.r) ∧ CF u7 u5.heap.size 3 (.bool V.a) ∧ CF u7 u5.heap.size 4 (.bool V.s) ∧ CF u7 u5.heap.size 5 (.bool V.g) := by
          refine ⟨⟨?_, ?_⟩, ⟨?_, ?_⟩, ⟨?_, ?_⟩, ⟨?_, ?_⟩, ⟨?_, ?_⟩, ⟨?_, ?_⟩, ⟨?_, ?_⟩, ⟨?_, ?_⟩, ⟨?_, ?_⟩, ⟨?_, ?_⟩, ⟨?_, ?_⟩, ⟨?_, ?_⟩⟩ <;> first | (refine kc hb ?_ <;> (go_simp; first | done | rfl)) | (refine kfz hb ?_ ?_ <;> first | (go_size; done) | (go_simp; done))
      have hz := hb.size
      (try simp only [World.size_alloc, World.size_setCell, World.size_drew] at hz)
      have L : u4.heap.size < u7.heap.size ∧ u5.heap.size < u7.heap.size := by omega
      have hB' : Below w.heap.size w u7 := by
          refine kb ?_ hb
          go_grown
      clear hu_0 fu_0 hu_1 fu_1 hu_2 fu_2 hu_3 fu_3 hu_4 fu_4 hu_5 fu_5 hv_0 fv_0 hv_1 fv_1 hv_2 fv_2 hv_3 fv_3 hv_4 fv_4 hv_5 fv_5 hlu hlv hnu0 hnu1 hku1 hnu2 hku2 hnv0 hnv1 hkv1 hnv2 hkv2 hB hsz
      clear hb hz
      obtain ⟨⟨hu_0, fu_0⟩, ⟨hu_1, fu_1⟩, ⟨hu_2, fu_2⟩, ⟨hu_3, fu_3⟩, ⟨hu_4, fu_4⟩, ⟨hu_5, fu_5⟩, ⟨hv_0, fv_0⟩, ⟨hv_1, fv_1⟩, ⟨hv_2, fv_2⟩, ⟨hv_3, fv_3⟩, ⟨hv_4, fv_4⟩, ⟨hv_5, fv_5⟩⟩ := T
      obtain ⟨hlu, hlv⟩ := L
      obtain ⟨hnu0, hnu1, hku1, hnu2, hku2⟩ := ap0 hlu
      obtain ⟨hnv0, hnv1, hkv1, hnv2, hkv2⟩ := ap0 hlv
      have hB := hB'; clear hB'
      have hsz := hB.size
      go_wp2_with fail
      ((with_reducible refine (awake10_c _).mono ?_); rintro _ u8 ⟨rfl, hb⟩)
      have T : CF u8 u4.heap.size 0 (.int .i64 U.l) ∧ CF u8 u4.heap.size 1 (.int .i64 U.c) ∧ CF u8 u4.heap.size 2 (.bool U.r) ∧ CF u8 u4.heap.size 3 (.bool U.a) ∧ CF u8 u4.heap.size 4 (.bool U.s) ∧ CF u8 u4.heap.size 5 (.bool U.g) ∧ CF u8 u5.heap.size 0 (.int .i64 V.l) ∧ CF u8 u5.heap.size 1 (.int .i64 V.c) ∧ CF u8 u5.heap.size 2 (.bool V.r) ∧ CF u8 u5.heap.size 3 (.bool V.a) ∧ CF u8 u5.heap.size 4 (.bool V.s) ∧ CF u8 u5.heap.size 5 (.bool V.g) := by
          refine ⟨⟨?_, ?_⟩, ⟨?_, ?_⟩, ⟨?_, ?_⟩, ⟨?_, ?_⟩, ⟨?_, ?_⟩, ⟨?_, ?_⟩, ⟨?_, ?_⟩, ⟨?_, ?_⟩, ⟨?_, ?_⟩, ⟨?_, ?_⟩, ⟨?_, ?_⟩, ⟨?_, ?_⟩⟩ <;> first | (refine kc hb ?_ <;> (go_simp; first | done | rfl)) | (refine kfz hb ?_ ?_ <;> first | (go_size; done) | (go_simp; done))
      have hz := hb.size
      (try simp only [World.size_alloc, World.size_setCell, World.size_drew] at hz)
      have L : u4.heap.size < u8.heap.size ∧ u5.heap.size < u8.heap.size := by omega
      have hB' : Below w.heap.size w u8 := by
          refine kb ?_ hb
          go_grown
      clear hu_0 fu_0 hu_1 fu_1 hu_2 fu_2 hu_3 fu_3 hu_4 fu_4 hu_5 fu_5 hv_0 fv_0 hv_1 fv_1 hv_2 fv_2 hv_3 fv_3 hv_4 fv_4 hv_5 fv_5 hlu hlv hnu0 hnu1 hku1 hnu2 hku2 hnv0 hnv1 hkv1 hnv2 hkv2 hB hsz
      clear hb hz
      obtain ⟨⟨hu_0, fu_0⟩, ⟨hu_1, fu_1⟩, ⟨hu_2, fu_2⟩, ⟨hu_3, fu_3⟩, ⟨hu_4, fu_4⟩, ⟨hu_5, fu_5⟩, ⟨hv_0, fv_0⟩, ⟨hv_1, fv_1⟩, ⟨hv_2, fv_2⟩, ⟨hv_3, fv_3⟩, ⟨hv_4, fv_4⟩, ⟨hv_5, fv_5⟩⟩ := T
      obtain ⟨hlu, hlv⟩ := L
      obtain ⟨hnu0, hnu1, hku1, hnu2, hku2⟩ := ap0 hlu
      obtain ⟨hnv0, hnv1, hkv1, hnv2, hkv2⟩ := ap0 hlv
      have hB := hB'; clear hB'
      have hsz := hB.size
      go_wp2
      go_ret
      exact ⟨rfl, by go_grown⟩
end Go.Proofs.Ytcpegglfgfgekaa
