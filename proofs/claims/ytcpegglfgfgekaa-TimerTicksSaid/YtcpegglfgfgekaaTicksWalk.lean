/-
  TimerTicks: its walk.
-/
import Derived.Test.YtcpegglfgfgekaaAwake10
import Derived.Test.YtcpegglfgfgekaaPlanX
set_option linter.unusedSimpArgs false
set_option linter.unusedVariables false
namespace Go.Proofs.Ytcpegglfgfgekaa
open Go.RowKit Go.PlainAid

theorem ticks_bad (x : Tm) (n m : Int) (h : ¬ (x.May ∧ 0 ≤ n ∧ n ≤ 3000 ∧ 0 ≤ m ∧ m ≤ 549755813888)) : mayT x = false ∨ mayT x = true ∧ (decide (n < 0) = true ∨ decide (n < 0) = false ∧ (decide (3000 < n) = true ∨ decide (3000 < n) = false ∧ (decide (m < 0) = true ∨ decide (m < 0) = false ∧ decide (549755813888 < m) = true))) := by
  cases e : mayT x
  · exact .inl rfl
  · have := (mayT_iff x).1 e
    have h2 : ¬ (0 ≤ n ∧ n ≤ 3000 ∧ 0 ≤ m ∧ m ≤ 549755813888) := fun hh => h ⟨this, hh⟩
    refine .inr ⟨rfl, ?_⟩
    simp only [decide_eq_true_eq, decide_eq_false_iff_not]
    omega
set_option maxRecDepth 100000 in
set_option maxHeartbeats 4000000 in
theorem ticks_walk (x : Tm) (n : Int) (hi : -9223372036854775808 ≤ n ∧ n ≤ 9223372036854775807) (m : Int) (hi2 : -9223372036854775808 ≤ m ∧ m ≤ 9223372036854775807) (w : World) :
    Calls Try.prog 5 #[.agg #[.int .i64 x.l, .int .i64 x.c, .bool x.r, .bool x.a, .bool x.s, .bool x.g], .int .i64 n, .int .i64 m] w fun e w' => e = .returned (.bool true) ∧ Below w.heap.size w w' := by
  have HMY := Lib.hid (fun (x : Tm) W => mayd_c x W)
  have HPL := Lib.hid (fun (x : Tm) W => plain10_c x W)
  by_cases hg : x.May ∧ 0 ≤ n ∧ n ≤ 3000 ∧ 0 ≤ m ∧ m ≤ 549755813888
  case neg =>
    have hd := ticks_bad x n m hg
    have HMx := Lib.hid (fun W => HMY.out x W)
    clear hg hi hi2
    rcases hd with hd | ⟨hd, d1 | ⟨d1, d2 | ⟨d2, d3 | ⟨d3, d4⟩⟩⟩⟩
    all_goals
      rw [hd] at HMx
      clear hd
      go_enter Try.func5, Try.ntmps5
      go_wp2_with fail
      ((with_reducible refine (HPL.out x _).mono ?_); rintro _ u1 ⟨rfl, hb⟩)
      have T : CF u1 w.heap.size 0 (.int .i64 x.l) ∧ CF u1 w.heap.size 1 (.int .i64 x.c) ∧ CF u1 w.heap.size 2 (.bool x.r) ∧ CF u1 w.heap.size 3 (.bool x.a) ∧ CF u1 w.heap.size 4 (.bool x.s) ∧ CF u1 w.heap.size 5 (.bool x.g) := by
          refine ⟨⟨?_, ?_⟩, ⟨?_, ?_⟩, ⟨?_, ?_⟩, ⟨?_, ?_⟩, ⟨?_, ?_⟩, ⟨?_, ?_⟩⟩ <;> first | (refine kc hb ?_ <;> (go_simp; first | done | rfl)) | (refine kfz hb ?_ ?_ <;> first | (go_size; done) | (go_simp; done))
      have hz := hb.size
      (try simp only [World.size_alloc, World.size_setCell, World.size_drew] at hz)
      have L : w.heap.size < u1.heap.size := by omega
      have hB' : Below w.heap.size w u1 := by
          refine kb ?_ hb
          go_grown
      clear hb hz
      obtain ⟨⟨ht_0, ft_0⟩, ⟨ht_1, ft_1⟩, ⟨ht_2, ft_2⟩, ⟨ht_3, ft_3⟩, ⟨ht_4, ft_4⟩, ⟨ht_5, ft_5⟩⟩ := T
      have hlt := L; clear L
      obtain ⟨hnt0, hnt1, hkt1, hnt2, hkt2⟩ := ap0 hlt
      have hB := hB'; clear hB'
      have hsz := hB.size
      go_wp2_with fail
      ((with_reducible refine (HMx.out _).mono ?_); rintro _ u2 ⟨rfl, hb⟩)
      have T : CF u2 w.heap.size 0 (.int .i64 x.l) ∧ CF u2 w.heap.size 1 (.int .i64 x.c) ∧ CF u2 w.heap.size 2 (.bool x.r) ∧ CF u2 w.heap.size 3 (.bool x.a) ∧ CF u2 w.heap.size 4 (.bool x.s) ∧ CF u2 w.heap.size 5 (.bool x.g) := by
          refine ⟨⟨?_, ?_⟩, ⟨?_, ?_⟩, ⟨?_, ?_⟩, ⟨?_, ?_⟩, ⟨?_, ?_⟩, ⟨?_, ?_⟩⟩ <;> first | (refine kc hb ?_ <;> (go_simp; first | done | rfl)) | (refine kfz hb ?_ ?_ <;> first | (go_size; done) | (go_simp; done))
      have hz := hb.size
      (try simp only [World.size_alloc, World.size_setCell, World.size_drew] at hz)
      have L : w.heap.size < u2.heap.size := by omega
      have hB' : Below w.heap.size w u2 := by
          refine kb ?_ hb
          go_grown
      clear ht_0 ft_0 ht_1 ft_1 ht_2 ft_2 ht_3 ft_3 ht_4 ft_4 ht_5 ft_5 hlt hnt0 hnt1 hkt1 hnt2 hkt2 hB hsz
      clear hb hz
      obtain ⟨⟨ht_0, ft_0⟩, ⟨ht_1, ft_1⟩, ⟨ht_2, ft_2⟩, ⟨ht_3, ft_3⟩, ⟨ht_4, ft_4⟩, ⟨ht_5, ft_5⟩⟩ := T
      have hlt := L; clear L
      obtain ⟨hnt0, hnt1, hkt1, hnt2, hkt2⟩ := ap0 hlt
      have hB := hB'; clear hB'
      have hsz := hB.size
      go_wp2_with fail
      ((with_reducible refine (awake10_c _).mono ?_); rintro _ u3 ⟨rfl, hb⟩)
      have T : CF u3 w.heap.size 0 (.int .i64 x.l) ∧ CF u3 w.heap.size 1 (.int .i64 x.c) ∧ CF u3 w.heap.size 2 (.bool x.r) ∧ CF u3 w.heap.size 3 (.bool x.a) ∧ CF u3 w.heap.size 4 (.bool x.s) ∧ CF u3 w.heap.size 5 (.bool x.g) := by
          refine ⟨⟨?_, ?_⟩, ⟨?_, ?_⟩, ⟨?_, ?_⟩, ⟨?_, ?_⟩, ⟨?_, ?_⟩, ⟨?_, ?_⟩⟩ <;> first | (refine kc hb ?_ <;> (go_simp; first | done | rfl)) | (refine kfz hb ?_ ?_ <;> first | (go_size; done) | (go_simp; done))
      have hz := hb.size
      (try simp only [World.size_alloc, World.size_setCell, World.size_drew] at hz)
      have L : w.heap.size < u3.heap.size := by omega
      have hB' : Below w.heap.size w u3 := by
          refine kb ?_ hb
          go_grown
      clear ht_0 ft_0 ht_1 ft_1 ht_2 ft_2 ht_3 ft_3 ht_4 ft_4 ht_5 ft_5 hlt hnt0 hnt1 hkt1 hnt2 hkt2 hB hsz
      clear hb hz
      obtain ⟨⟨ht_0, ft_0⟩, ⟨ht_1, ft_1⟩, ⟨ht_2, ft_2⟩, ⟨ht_3, ft_3⟩, ⟨ht_4, ft_4⟩, ⟨ht_5, ft_5⟩⟩ := T
      have hlt := L; clear L
      obtain ⟨hnt0, hnt1, hkt1, hnt2, hkt2⟩ := ap0 hlt
      have hB := hB'; clear hB'
      have hsz := hB.size
      go_wp2
      go_ret
      exact ⟨rfl, by go_grown⟩
  case pos =>
    obtain ⟨hx, hn0, hn1, hm0, hm1⟩ := hg
    obtain ⟨K, rfl⟩ : ∃ K : Nat, n = (K : Int) := ⟨n.toNat, by omega⟩
    have d1 : decide ((K : Int) < 0) = false := by simp
    have d2 : decide (3000 < (K : Int)) = false := by simp; omega
    have d3 : decide (m < 0) = false := by simp; omega
    have d4 : decide (549755813888 < m) = false := by simp; omega
    have HMx := Lib.hid (fun W => HMY.out x W)
    rw [(mayT_iff x).2 hx] at HMx
    have HA1 := Lib.hid (fun W => afterp_c x K hx hn0 (by omega) W)
    obtain ⟨U, hU⟩ : ∃ U, ticks K x = U := ⟨_, rfl⟩
    have hU1 : afterT x K = U := by unfold afterT; rw [Int.toNat_natCast]; exact hU
    have hUm : U.May := by rw [← hU]; exact ticks_may K x hx
    rw [hU1] at HA1
    have HA2 := Lib.hid (fun W => afterp_c U m hUm hm0 (by omega) W)
    have HA3 := Lib.hid (fun W => afterp_c x (K + m) hx (by omega) (by omega) W)
    rw [afterT_add x K m hn0 hm0, hU1] at HA3
    have HVm := (mayT_iff _).2 (afterT_may U m hUm)
    have HMv := Lib.hid (fun W => HMY.out (afterT U m) W)
    rw [HVm] at HMv
    generalize afterT U m = V at *
    have HTK := Lib.hid (fun k W h => tickp_x w.heap.size 0 (ticks k x) (ticks_may k x hx) W h)
    have HTP := Lib.hid (fun tb k W h => tickp_x tb 0 (ticks k x) (ticks_may k x hx) W h)
    have HLS := Lib.hid (fun k => ticks_last k x)
    have HU := Lib.hid hU
    have hK : (K : Int) ≤ 3000 := hn1
    have hw : IntKind.i64.wrap ((K : Int) + m) = (K : Int) + m := IntWalk.i64_in _ (by omega)
    clear hx hn0 hn1 hm0 hm1 hi hi2 hU hU1 hUm HVm HTK
    go_enter Try.func5, Try.ntmps5
    go_wp2_with fail
    ((with_reducible refine (HPL.out x _).mono ?_); rintro _ u1 ⟨rfl, hb⟩)
    have T : CF u1 w.heap.size 0 (.int .i64 x.l) ∧ CF u1 w.heap.size 1 (.int .i64 x.c) ∧ CF u1 w.heap.size 2 (.bool x.r) ∧ CF u1 w.heap.size 3 (.bool x.a) ∧ CF u1 w.heap.size 4 (.bool x.s) ∧ CF u1 w.heap.size 5 (.bool x.g) := by
        refine ⟨⟨?_, ?_⟩, ⟨?_, ?_⟩, ⟨?_, ?_⟩, ⟨?_, ?_⟩, ⟨?_, ?_⟩, ⟨?_, ?_⟩⟩ <;> first | (refine kc hb ?_ <;> (go_simp; first | done | rfl)) | (refine kfz hb ?_ ?_ <;> first | (go_size; done) | (go_simp; done))
    have hz := hb.size
    (try simp only [World.size_alloc, World.size_setCell, World.size_drew] at hz)
    have L : w.heap.size < u1.heap.size := by omega
    have hB' : Below w.heap.size w u1 := by
        refine kb ?_ hb
        go_grown
    clear hb hz
    obtain ⟨⟨ht_0, ft_0⟩, ⟨ht_1, ft_1⟩, ⟨ht_2, ft_2⟩, ⟨ht_3, ft_3⟩, ⟨ht_4, ft_4⟩, ⟨ht_5, ft_5⟩⟩ := T
    have hlt := L; clear L
    obtain ⟨hnt0, hnt1, hkt1, hnt2, hkt2⟩ := ap0 hlt
    have hB := hB'; clear hB'
    have hsz := hB.size
    go_wp2_with fail
    ((with_reducible refine (HMx.out _).mono ?_); rintro _ u2 ⟨rfl, hb⟩)
    have T : CF u2 w.heap.size 0 (.int .i64 x.l) ∧ CF u2 w.heap.size 1 (.int .i64 x.c) ∧ CF u2 w.heap.size 2 (.bool x.r) ∧ CF u2 w.heap.size 3 (.bool x.a) ∧ CF u2 w.heap.size 4 (.bool x.s) ∧ CF u2 w.heap.size 5 (.bool x.g) := by
        refine ⟨⟨?_, ?_⟩, ⟨?_, ?_⟩, ⟨?_, ?_⟩, ⟨?_, ?_⟩, ⟨?_, ?_⟩, ⟨?_, ?_⟩⟩ <;> first | (refine kc hb ?_ <;> (go_simp; first | done | rfl)) | (refine kfz hb ?_ ?_ <;> first | (go_size; done) | (go_simp; done))
    have hz := hb.size
    (try simp only [World.size_alloc, World.size_setCell, World.size_drew] at hz)
    have L : w.heap.size < u2.heap.size := by omega
    have hB' : Below w.heap.size w u2 := by
        refine kb ?_ hb
        go_grown
    clear ht_0 ft_0 ht_1 ft_1 ht_2 ft_2 ht_3 ft_3 ht_4 ft_4 ht_5 ft_5 hlt hnt0 hnt1 hkt1 hnt2 hkt2 hB hsz
    clear hb hz
    obtain ⟨⟨ht_0, ft_0⟩, ⟨ht_1, ft_1⟩, ⟨ht_2, ft_2⟩, ⟨ht_3, ft_3⟩, ⟨ht_4, ft_4⟩, ⟨ht_5, ft_5⟩⟩ := T
    have hlt := L; clear L
    obtain ⟨hnt0, hnt1, hkt1, hnt2, hkt2⟩ := ap0 hlt
    have hB := hB'; clear hB'
    have hsz := hB.size
    go_wp2_with fail
    ((with_reducible refine (HA1.out _).mono ?_); rintro _ u3 ⟨rfl, hb⟩)
    have T : CF u3 w.heap.size 0 (.int .i64 x.l) ∧ CF u3 w.heap.size 1 (.int .i64 x.c) ∧ CF u3 w.heap.size 2 (.bool x.r) ∧ CF u3 w.heap.size 3 (.bool x.a) ∧ CF u3 w.heap.size 4 (.bool x.s) ∧ CF u3 w.heap.size 5 (.bool x.g) := by
        refine ⟨⟨?_, ?_⟩, ⟨?_, ?_⟩, ⟨?_, ?_⟩, ⟨?_, ?_⟩, ⟨?_, ?_⟩, ⟨?_, ?_⟩⟩ <;> first | (refine kc hb ?_ <;> (go_simp; first | done | rfl)) | (refine kfz hb ?_ ?_ <;> first | (go_size; done) | (go_simp; done))
    have hz := hb.size
    (try simp only [World.size_alloc, World.size_setCell, World.size_drew] at hz)
    have L : w.heap.size < u3.heap.size := by omega
    have hB' : Below w.heap.size w u3 := by
        refine kb ?_ hb
        go_grown
    clear ht_0 ft_0 ht_1 ft_1 ht_2 ft_2 ht_3 ft_3 ht_4 ft_4 ht_5 ft_5 hlt hnt0 hnt1 hkt1 hnt2 hkt2 hB hsz
    clear hb hz
    obtain ⟨⟨ht_0, ft_0⟩, ⟨ht_1, ft_1⟩, ⟨ht_2, ft_2⟩, ⟨ht_3, ft_3⟩, ⟨ht_4, ft_4⟩, ⟨ht_5, ft_5⟩⟩ := T
    have hlt := L; clear L
    obtain ⟨hnt0, hnt1, hkt1, hnt2, hkt2⟩ := ap0 hlt
    have hB := hB'; clear hB'
    have hsz := hB.size
    have hz3 : w.heap.size < u3.heap.size := hlt
    go_wp2_with fail
    go_loopg [10] K (fun kx s10 wr => ∃ k : Nat, s10 = .int .i64 k ∧ k ≤ K ∧ K - k ≤ kx ∧ Hid (Tw (u3.heap.size + 1) 0 (ticks k x) wr) ∧ Hid (Tw w.heap.size 0 x wr) ∧ Hid (Tw u3.heap.size 0 U wr) ∧ Hid (Below w.heap.size w wr))
    case atStart =>
      refine ⟨0, by simp, Nat.zero_le _, by omega, Lib.hid ?_, Lib.hid ?_, Lib.hid ?_, Lib.hid (by go_grown)⟩
      · rw [ticks_zero]
        refine Tw.mk0 ?_ ?_ ?_ ?_ ?_ ?_ ?_ ?_ ?_ ?_ ?_ ?_ <;> go_simp
      · refine Tw.mk0 ?_ ?_ ?_ ?_ ?_ ?_ ?_ ?_ ?_ ?_ ?_ ?_ <;> go_simp
      · refine Tw.mk0 ?_ ?_ ?_ ?_ ?_ ?_ ?_ ?_ ?_ ?_ ?_ ?_ <;> go_simp
    case round =>
      obtain ⟨k, rfl, hk, hkx, HX, HT, HV, HB⟩ := hrel
      clear ht_0 ht_1 ht_2 ht_3 ht_4 ht_5 ft_0 ft_1 ft_2 ft_3 ft_4 ft_5 hB hsz
      by_cases hlt2 : k < K
      · go_wp2_with fail
        refine (HTP.out _ k _ HX.out).mono ?_
        rintro _ y ⟨rfl, hg, hT⟩
        rw [← HLS.out] at hT
        have HT2 := Lib.hid (HT.out.other hg (by omega))
        have HV2 := Lib.hid (HV.out.other hg (by omega))
        have HX2 := Lib.hid hT
        have HB2 := Lib.hid (below_grown2 HB.out hg ⟨by omega, Nat.le_refl _⟩)
        clear hg hT
        go_wp2
        go_roundg (K - (k + 1))
        case measure => omega
        case rel => exact ⟨k + 1, by go_num, by omega, by omega, HX2, HT2, HV2, HB2⟩
      · have hkK : k = K := by omega
        have hX := HX.out
        rw [hkK, HU.out] at hX
        have hge : (K : Int) ≤ (k : Int) := by omega
        obtain ⟨u4, rfl⟩ : ∃ W, W = wr := ⟨wr, rfl⟩
        obtain ⟨ht_0, ht_1, ht_2, ht_3, ht_4, ht_5⟩ := HT.out.at0
        obtain ⟨ft_0, ft_1, ft_2, ft_3, ft_4, ft_5⟩ := HT.out.free0
        obtain ⟨hu_0, hu_1, hu_2, hu_3, hu_4, hu_5⟩ := HV.out.at0
        obtain ⟨fu_0, fu_1, fu_2, fu_3, fu_4, fu_5⟩ := HV.out.free0
        obtain ⟨hx_0, hx_1, hx_2, hx_3, hx_4, hx_5⟩ := hX.at0
        obtain ⟨fx_0, fx_1, fx_2, fx_3, fx_4, fx_5⟩ := hX.free0
        have hlt4 := HT.out.lt
        have hlu4 := HV.out.lt
        have hlx4 := hX.lt
        have hB := HB.out
        have hz4 := hB.size
        clear hX
        go_wp2_with fail
        ((with_reducible refine (HA2.out _).mono ?_); rintro _ u5 ⟨rfl, hb⟩)
        have T : CF u5 w.heap.size 0 (.int .i64 x.l) ∧ CF u5 w.heap.size 1 (.int .i64 x.c) ∧ CF u5 w.heap.size 2 (.bool x.r) ∧ CF u5 w.heap.size 3 (.bool x.a) ∧ CF u5 w.heap.size 4 (.bool x.s) ∧ CF u5 w.heap.size 5 (.bool x.g) ∧ CF u5 u3.heap.size 0 (.int .i64 U.l) ∧ CF u5 u3.heap.size 1 (.int .i64 U.c) ∧ CF u5 u3.heap.size 2 (.bool U.r) ∧ CF u5 u3.heap.size 3 (.bool U.a) ∧ CF u5 u3.heap.size 4 (.bool U.s) ∧ CF u5 u3.heap.size 5 (.bool U.g) ∧ CF u5 (u3.heap.size + 1) 0 (.int .i64 U.l) ∧ CF u5 (u3.heap.size + 1) 1 (.int .i64 U.c) ∧ CF u5 (u3.heap.size + 1) 2 (.bool U.r) ∧ CF u5 (u3.heap.size + 1) 3 (.bool U.a) ∧ CF u5 (u3.heap.size + 1) 4 (.bool U.s) ∧ CF u5 (u3.heap.size + 1) 5 (.bool U.g) := by
            refine ⟨⟨?_, ?_⟩, ⟨?_, ?_⟩, ⟨?_, ?_⟩, ⟨?_, ?_⟩, ⟨?_, ?_⟩, ⟨?_, ?_⟩, ⟨?_, ?_⟩, ⟨?_, ?_⟩, ⟨?_, ?_⟩, ⟨?_, ?_⟩, ⟨?_, ?_⟩, ⟨?_, ?_⟩, ⟨?_, ?_⟩, ⟨?_, ?_⟩, ⟨?_, ?_⟩, ⟨?_, ?_⟩, ⟨?_, ?_⟩, ⟨?_, ?_⟩⟩ <;> first | (refine kc hb ?_ <;> (go_simp; first | done | rfl)) | (refine kfz hb ?_ ?_ <;> first | (go_size; done) | (go_simp; done))
        have hz := hb.size
        (try simp only [World.size_alloc, World.size_setCell, World.size_drew] at hz)
        have L : w.heap.size < u5.heap.size ∧ u3.heap.size < u5.heap.size ∧ u3.heap.size + 1 < u5.heap.size := by omega
        have hB' : Below w.heap.size w u5 := by
            refine kb ?_ hb
            go_grown
        clear hb hz
        obtain ⟨⟨ht_0, ft_0⟩, ⟨ht_1, ft_1⟩, ⟨ht_2, ft_2⟩, ⟨ht_3, ft_3⟩, ⟨ht_4, ft_4⟩, ⟨ht_5, ft_5⟩, ⟨hu_0, fu_0⟩, ⟨hu_1, fu_1⟩, ⟨hu_2, fu_2⟩, ⟨hu_3, fu_3⟩, ⟨hu_4, fu_4⟩, ⟨hu_5, fu_5⟩, ⟨hx_0, fx_0⟩, ⟨hx_1, fx_1⟩, ⟨hx_2, fx_2⟩, ⟨hx_3, fx_3⟩, ⟨hx_4, fx_4⟩, ⟨hx_5, fx_5⟩⟩ := T
        obtain ⟨hlt, hlu, hlx⟩ := L
        obtain ⟨hnt0, hnt1, hkt1, hnt2, hkt2⟩ := ap0 hlt
        obtain ⟨hnu0, hnu1, hku1, hnu2, hku2⟩ := ap0 hlu
        obtain ⟨hnx0, hkx1⟩ := ap1 hlx
        have hB := hB'; clear hB'
        have hsz := hB.size
        go_wp2_with fail
        ((with_reducible refine (HA3.out _).mono ?_); rintro _ u6 ⟨rfl, hb⟩)
        have T : CF u6 w.heap.size 0 (.int .i64 x.l) ∧ CF u6 w.heap.size 1 (.int .i64 x.c) ∧ CF u6 w.heap.size 2 (.bool x.r) ∧ CF u6 w.heap.size 3 (.bool x.a) ∧ CF u6 w.heap.size 4 (.bool x.s) ∧ CF u6 w.heap.size 5 (.bool x.g) ∧ CF u6 u3.heap.size 0 (.int .i64 U.l) ∧ CF u6 u3.heap.size 1 (.int .i64 U.c) ∧ CF u6 u3.heap.size 2 (.bool U.r) ∧ CF u6 u3.heap.size 3 (.bool U.a) ∧ CF u6 u3.heap.size 4 (.bool U.s) ∧ CF u6 u3.heap.size 5 (.bool U.g) ∧ CF u6 (u3.heap.size + 1) 0 (.int .i64 U.l) ∧ CF u6 (u3.heap.size + 1) 1 (.int .i64 U.c) ∧ CF u6 (u3.heap.size + 1) 2 (.bool U.r) ∧ CF u6 (u3.heap.size + 1) 3 (.bool U.a) ∧ CF u6 (u3.heap.size + 1) 4 (.bool U.s) ∧ CF u6 (u3.heap.size + 1) 5 (.bool U.g) ∧ CF u6 u5.heap.size 0 (.int .i64 V.l) ∧ CF u6 u5.heap.size 1 (.int .i64 V.c) ∧ CF u6 u5.heap.size 2 (.bool V.r) ∧ CF u6 u5.heap.size 3 (.bool V.a) ∧ CF u6 u5.heap.size 4 (.bool V.s) ∧ CF u6 u5.heap.size 5 (.bool V.g) := by
            refine ⟨⟨?_, ?_⟩, ⟨?_, ?_⟩, ⟨?_, ?_⟩, ⟨?_, ?_⟩, ⟨?_, ?_⟩, ⟨?_, ?_⟩, ⟨?_, ?_⟩, ⟨?_, ?_⟩, ⟨?_, ?_⟩, ⟨?_, ?_⟩, ⟨?_, ?_⟩, ⟨?_, ?_⟩, ⟨?_, ?_⟩, ⟨?_, ?_⟩, ⟨?_, ?_⟩, ⟨?_, ?_⟩, ⟨?_, ?_⟩, ⟨?_, ?_⟩, ⟨?_, ?_⟩, ⟨?_, ?_⟩, ⟨?_, ?_⟩, ⟨?_, ?_⟩, ⟨?_, ?_⟩, ⟨?_, ?_⟩⟩ <;> first | (refine kc hb ?_ <;> (go_simp; first | done | rfl)) | (refine kfz hb ?_ ?_ <;> first | (go_size; done) | (go_simp; done))
        have hz := hb.size
        (try simp only [World.size_alloc, World.size_setCell, World.size_drew] at hz)
        have L : w.heap.size < u6.heap.size ∧ u3.heap.size < u6.heap.size ∧ u3.heap.size + 1 < u6.heap.size ∧ u5.heap.size < u6.heap.size := by omega
        have hB' : Below w.heap.size w u6 := by
            refine kb ?_ hb
            go_grown
        clear ht_0 ft_0 ht_1 ft_1 ht_2 ft_2 ht_3 ft_3 ht_4 ft_4 ht_5 ft_5 hu_0 fu_0 hu_1 fu_1 hu_2 fu_2 hu_3 fu_3 hu_4 fu_4 hu_5 fu_5 hx_0 fx_0 hx_1 fx_1 hx_2 fx_2 hx_3 fx_3 hx_4 fx_4 hx_5 fx_5 hlt hlu hlx hnt0 hnt1 hkt1 hnt2 hkt2 hnu0 hnu1 hku1 hnu2 hku2 hnx0 hkx1 hB hsz
        clear hb hz
        obtain ⟨⟨ht_0, ft_0⟩, ⟨ht_1, ft_1⟩, ⟨ht_2, ft_2⟩, ⟨ht_3, ft_3⟩, ⟨ht_4, ft_4⟩, ⟨ht_5, ft_5⟩, ⟨hu_0, fu_0⟩, ⟨hu_1, fu_1⟩, ⟨hu_2, fu_2⟩, ⟨hu_3, fu_3⟩, ⟨hu_4, fu_4⟩, ⟨hu_5, fu_5⟩, ⟨hx_0, fx_0⟩, ⟨hx_1, fx_1⟩, ⟨hx_2, fx_2⟩, ⟨hx_3, fx_3⟩, ⟨hx_4, fx_4⟩, ⟨hx_5, fx_5⟩, ⟨hv_0, fv_0⟩, ⟨hv_1, fv_1⟩, ⟨hv_2, fv_2⟩, ⟨hv_3, fv_3⟩, ⟨hv_4, fv_4⟩, ⟨hv_5, fv_5⟩⟩ := T
        obtain ⟨hlt, hlu, hlx, hlv⟩ := L
        obtain ⟨hnt0, hnt1, hkt1, hnt2, hkt2⟩ := ap0 hlt
        obtain ⟨hnu0, hnu1, hku1, hnu2, hku2⟩ := ap0 hlu
        obtain ⟨hnx0, hkx1⟩ := ap1 hlx
        obtain ⟨hnv0, hnv1, hkv1, hnv2, hkv2⟩ := ap0 hlv
        have hB := hB'; clear hB'
        have hsz := hB.size
        go_wp2_with fail
        ((with_reducible refine (HPL.out V _).mono ?_); rintro _ u7 ⟨rfl, hb⟩)
        have T : CF u7 u3.heap.size 0 (.int .i64 U.l) ∧ CF u7 u3.heap.size 1 (.int .i64 U.c) ∧ CF u7 u3.heap.size 2 (.bool U.r) ∧ CF u7 u3.heap.size 3 (.bool U.a) ∧ CF u7 u3.heap.size 4 (.bool U.s) ∧ CF u7 u3.heap.size 5 (.bool U.g) ∧ CF u7 (u3.heap.size + 1) 0 (.int .i64 U.l) ∧ CF u7 (u3.heap.size + 1) 1 (.int .i64 U.c) ∧ CF u7 (u3.heap.size + 1) 2 (.bool U.r) ∧ CF u7 (u3.heap.size + 1) 3 (.bool U.a) ∧ CF u7 (u3.heap.size + 1) 4 (.bool U.s) ∧ CF u7 (u3.heap.size + 1) 5 (.bool U.g) ∧ CF u7 u5.heap.size 0 (.int .i64 V.l) ∧ CF u7 u5.heap.size 1 (.int .i64 V.c) ∧ CF u7 u5.heap.size 2 (.bool V.r) ∧ CF u7 u5.heap.size 3 (.bool V.a) ∧ CF u7 u5.heap.size 4 (.bool V.s) ∧ CF u7 u5.heap.size 5 (.bool V.g) ∧ CF u7 u6.heap.size 0 (.int .i64 V.l) ∧ CF u7 u6.heap.size 1 (.int .i64 V.c) ∧ CF u7 u6.heap.size 2 (.bool V.r) ∧ CF u7 u6.heap.size 3 (.bool V.a) ∧ CF u7 u6.heap.size 4 (.bool V.s) ∧ CF u7 u6.heap.size 5 (.bool V.g) := by
            refine ⟨⟨?_, ?_⟩, ⟨?_, ?_⟩, ⟨?_, ?_⟩, ⟨?_, ?_⟩, ⟨?_, ?_⟩, ⟨?_, ?_⟩, ⟨?_, ?_⟩, ⟨?_, ?_⟩, ⟨?_, ?_⟩, ⟨?_, ?_⟩, ⟨?_, ?_⟩, ⟨?_, ?_⟩, ⟨?_, ?_⟩, ⟨?_, ?_⟩, ⟨?_, ?_⟩, ⟨?_, ?_⟩, ⟨?_, ?_⟩, ⟨?_, ?_⟩, ⟨?_, ?_⟩, ⟨?_, ?_⟩, ⟨?_, ?_⟩, ⟨?_, ?_⟩, ⟨?_, ?_⟩, ⟨?_, ?_⟩⟩ <;> first | (refine kc hb ?_ <;> (go_simp; first | done | rfl)) | (refine kfz hb ?_ ?_ <;> first | (go_size; done) | (go_simp; done))
        have hz := hb.size
        (try simp only [World.size_alloc, World.size_setCell, World.size_drew] at hz)
        have L : u3.heap.size < u7.heap.size ∧ u3.heap.size + 1 < u7.heap.size ∧ u5.heap.size < u7.heap.size ∧ u6.heap.size < u7.heap.size := by omega
        have hB' : Below w.heap.size w u7 := by
            refine kb ?_ hb
            go_grown
        clear ht_0 ft_0 ht_1 ft_1 ht_2 ft_2 ht_3 ft_3 ht_4 ft_4 ht_5 ft_5 hu_0 fu_0 hu_1 fu_1 hu_2 fu_2 hu_3 fu_3 hu_4 fu_4 hu_5 fu_5 hx_0 fx_0 hx_1 fx_1 hx_2 fx_2 hx_3 fx_3 hx_4 fx_4 hx_5 fx_5 hv_0 fv_0 hv_1 fv_1 hv_2 fv_2 hv_3 fv_3 hv_4 fv_4 hv_5 fv_5 hlt hlu hlx hlv hnt0 hnt1 hkt1 hnt2 hkt2 hnu0 hnu1 hku1 hnu2 hku2 hnx0 hkx1 hnv0 hnv1 hkv1 hnv2 hkv2 hB hsz
        clear hb hz
        obtain ⟨⟨hu_0, fu_0⟩, ⟨hu_1, fu_1⟩, ⟨hu_2, fu_2⟩, ⟨hu_3, fu_3⟩, ⟨hu_4, fu_4⟩, ⟨hu_5, fu_5⟩, ⟨hx_0, fx_0⟩, ⟨hx_1, fx_1⟩, ⟨hx_2, fx_2⟩, ⟨hx_3, fx_3⟩, ⟨hx_4, fx_4⟩, ⟨hx_5, fx_5⟩, ⟨hv_0, fv_0⟩, ⟨hv_1, fv_1⟩, ⟨hv_2, fv_2⟩, ⟨hv_3, fv_3⟩, ⟨hv_4, fv_4⟩, ⟨hv_5, fv_5⟩, ⟨hy_0, fy_0⟩, ⟨hy_1, fy_1⟩, ⟨hy_2, fy_2⟩, ⟨hy_3, fy_3⟩, ⟨hy_4, fy_4⟩, ⟨hy_5, fy_5⟩⟩ := T
        obtain ⟨hlu, hlx, hlv, hly⟩ := L
        obtain ⟨hnu0, hnu1, hku1, hnu2, hku2⟩ := ap0 hlu
        obtain ⟨hnx0, hkx1⟩ := ap1 hlx
        obtain ⟨hnv0, hnv1, hkv1, hnv2, hkv2⟩ := ap0 hlv
        obtain ⟨hny0, hny1, hky1, hny2, hky2⟩ := ap0 hly
        have hB := hB'; clear hB'
        have hsz := hB.size
        go_wp2_with fail
        ((with_reducible refine (HMv.out _).mono ?_); rintro _ u8 ⟨rfl, hb⟩)
        have T : CF u8 u3.heap.size 0 (.int .i64 U.l) ∧ CF u8 u3.heap.size 1 (.int .i64 U.c) ∧ CF u8 u3.heap.size 2 (.bool U.r) ∧ CF u8 u3.heap.size 3 (.bool U.a) ∧ CF u8 u3.heap.size 4 (.bool U.s) ∧ CF u8 u3.heap.size 5 (.bool U.g) ∧ CF u8 (u3.heap.size + 1) 0 (.int .i64 U.l) ∧ CF u8 (u3.heap.size + 1) 1 (.int .i64 U.c) ∧ CF u8 (u3.heap.size + 1) 2 (.bool U.r) ∧ CF u8 (u3.heap.size + 1) 3 (.bool U.a) ∧ CF u8 (u3.heap.size + 1) 4 (.bool U.s) ∧ CF u8 (u3.heap.size + 1) 5 (.bool U.g) ∧ CF u8 u5.heap.size 0 (.int .i64 V.l) ∧ CF u8 u5.heap.size 1 (.int .i64 V.c) ∧ CF u8 u5.heap.size 2 (.bool V.r) ∧ CF u8 u5.heap.size 3 (.bool V.a) ∧ CF u8 u5.heap.size 4 (.bool V.s) ∧ CF u8 u5.heap.size 5 (.bool V.g) ∧ CF u8 u6.heap.size 0 (.int .i64 V.l) ∧ CF u8 u6.heap.size 1 (.int .i64 V.c) ∧ CF u8 u6.heap.size 2 (.bool V.r) ∧ CF u8 u6.heap.size 3 (.bool V.a) ∧ CF u8 u6.heap.size 4 (.bool V.s) ∧ CF u8 u6.heap.size 5 (.bool V.g) := by
            refine ⟨⟨?_, ?_⟩, ⟨?_, ?_⟩, ⟨?_, ?_⟩, ⟨?_, ?_⟩, ⟨?_, ?_⟩, ⟨?_, ?_⟩, ⟨?_, ?_⟩, ⟨?_, ?_⟩, ⟨?_, ?_⟩, ⟨?_, ?_⟩, ⟨?_, ?_⟩, ⟨?_, ?_⟩, ⟨?_, ?_⟩, ⟨?_, ?_⟩, ⟨?_, ?_⟩, ⟨?_, ?_⟩, ⟨?_, ?_⟩, ⟨?_, ?_⟩, ⟨?_, ?_⟩, ⟨?_, ?_⟩, ⟨?_, ?_⟩, ⟨?_, ?_⟩, ⟨?_, ?_⟩, ⟨?_, ?_⟩⟩ <;> first | (refine kc hb ?_ <;> (go_simp; first | done | rfl)) | (refine kfz hb ?_ ?_ <;> first | (go_size; done) | (go_simp; done))
        have hz := hb.size
        (try simp only [World.size_alloc, World.size_setCell, World.size_drew] at hz)
        have L : u3.heap.size < u8.heap.size ∧ u3.heap.size + 1 < u8.heap.size ∧ u5.heap.size < u8.heap.size ∧ u6.heap.size < u8.heap.size := by omega
        have hB' : Below w.heap.size w u8 := by
            refine kb ?_ hb
            go_grown
        clear hu_0 fu_0 hu_1 fu_1 hu_2 fu_2 hu_3 fu_3 hu_4 fu_4 hu_5 fu_5 hx_0 fx_0 hx_1 fx_1 hx_2 fx_2 hx_3 fx_3 hx_4 fx_4 hx_5 fx_5 hv_0 fv_0 hv_1 fv_1 hv_2 fv_2 hv_3 fv_3 hv_4 fv_4 hv_5 fv_5 hy_0 fy_0 hy_1 fy_1 hy_2 fy_2 hy_3 fy_3 hy_4 fy_4 hy_5 fy_5 hlu hlx hlv hly hnu0 hnu1 hku1 hnu2 hku2 hnx0 hkx1 hnv0 hnv1 hkv1 hnv2 hkv2 hny0 hny1 hky1 hny2 hky2 hB hsz
        clear hb hz
        obtain ⟨⟨hu_0, fu_0⟩, ⟨hu_1, fu_1⟩, ⟨hu_2, fu_2⟩, ⟨hu_3, fu_3⟩, ⟨hu_4, fu_4⟩, ⟨hu_5, fu_5⟩, ⟨hx_0, fx_0⟩, ⟨hx_1, fx_1⟩, ⟨hx_2, fx_2⟩, ⟨hx_3, fx_3⟩, ⟨hx_4, fx_4⟩, ⟨hx_5, fx_5⟩, ⟨hv_0, fv_0⟩, ⟨hv_1, fv_1⟩, ⟨hv_2, fv_2⟩, ⟨hv_3, fv_3⟩, ⟨hv_4, fv_4⟩, ⟨hv_5, fv_5⟩, ⟨hy_0, fy_0⟩, ⟨hy_1, fy_1⟩, ⟨hy_2, fy_2⟩, ⟨hy_3, fy_3⟩, ⟨hy_4, fy_4⟩, ⟨hy_5, fy_5⟩⟩ := T
        obtain ⟨hlu, hlx, hlv, hly⟩ := L
        obtain ⟨hnu0, hnu1, hku1, hnu2, hku2⟩ := ap0 hlu
        obtain ⟨hnx0, hkx1⟩ := ap1 hlx
        obtain ⟨hnv0, hnv1, hkv1, hnv2, hkv2⟩ := ap0 hlv
        obtain ⟨hny0, hny1, hky1, hny2, hky2⟩ := ap0 hly
        have hB := hB'; clear hB'
        have hsz := hB.size
        go_wp2_with fail
        ((with_reducible refine (awake10_c _).mono ?_); rintro _ u9 ⟨rfl, hb⟩)
        have T : CF u9 u3.heap.size 0 (.int .i64 U.l) ∧ CF u9 u3.heap.size 1 (.int .i64 U.c) ∧ CF u9 u3.heap.size 2 (.bool U.r) ∧ CF u9 u3.heap.size 3 (.bool U.a) ∧ CF u9 u3.heap.size 4 (.bool U.s) ∧ CF u9 u3.heap.size 5 (.bool U.g) := by
            refine ⟨⟨?_, ?_⟩, ⟨?_, ?_⟩, ⟨?_, ?_⟩, ⟨?_, ?_⟩, ⟨?_, ?_⟩, ⟨?_, ?_⟩⟩ <;> first | (refine kc hb ?_ <;> (go_simp; first | done | rfl)) | (refine kfz hb ?_ ?_ <;> first | (go_size; done) | (go_simp; done))
        have hz := hb.size
        (try simp only [World.size_alloc, World.size_setCell, World.size_drew] at hz)
        have L : u3.heap.size < u9.heap.size := by omega
        have hB' : Below w.heap.size w u9 := by
            refine kb ?_ hb
            go_grown
        clear hu_0 fu_0 hu_1 fu_1 hu_2 fu_2 hu_3 fu_3 hu_4 fu_4 hu_5 fu_5 hx_0 fx_0 hx_1 fx_1 hx_2 fx_2 hx_3 fx_3 hx_4 fx_4 hx_5 fx_5 hv_0 fv_0 hv_1 fv_1 hv_2 fv_2 hv_3 fv_3 hv_4 fv_4 hv_5 fv_5 hy_0 fy_0 hy_1 fy_1 hy_2 fy_2 hy_3 fy_3 hy_4 fy_4 hy_5 fy_5 hlu hlx hlv hly hnu0 hnu1 hku1 hnu2 hku2 hnx0 hkx1 hnv0 hnv1 hkv1 hnv2 hkv2 hny0 hny1 hky1 hny2 hky2 hB hsz
        clear hb hz
        obtain ⟨⟨hu_0, fu_0⟩, ⟨hu_1, fu_1⟩, ⟨hu_2, fu_2⟩, ⟨hu_3, fu_3⟩, ⟨hu_4, fu_4⟩, ⟨hu_5, fu_5⟩⟩ := T
        have hlu := L; clear L
        obtain ⟨hnu0, hnu1, hku1, hnu2, hku2⟩ := ap0 hlu
        have hB := hB'; clear hB'
        have hsz := hB.size
        go_wp2
        go_ret
        exact ⟨rfl, by go_grown⟩
end Go.Proofs.Ytcpegglfgfgekaa
