/-
  TimerBytes: its walk.
-/
import Derived.Test.YtcpegglfgfgekaaAwake10
set_option linter.unusedSimpArgs false
set_option linter.unusedVariables false
namespace Go.Proofs.Ytcpegglfgfgekaa
open Go.RowKit Go.PlainAid

set_option maxRecDepth 100000 in
set_option maxHeartbeats 4000000 in
theorem bytes_walk10 (x : Tm) (a b c e : Int) (ha : (0 ≤ a ∧ a ≤ 255) ∧ (0 ≤ b ∧ b ≤ 255) ∧ (0 ≤ c ∧ c ≤ 255) ∧ 0 ≤ e ∧ e ≤ 255) (w : World) :
    Calls Try.prog 8 #[.agg #[.int .i64 x.l, .int .i64 x.c, .bool x.r, .bool x.a, .bool x.s, .bool x.g], .agg #[.int .u8 a, .int .u8 b, .int .u8 c, .int .u8 e]] w fun e w' => e = .returned (.bool true) ∧ Below w.heap.size w w' := by
  have HPL := Lib.hid (fun (x : Tm) W => plain10_c x W)
  have HMY := Lib.hid (fun W => mayd_c x W)
  cases hm : mayT x
  · rw [hm] at HMY
    clear hm
    go_enter Try.func8, Try.ntmps8
    go_wp2_with fail
    ((with_reducible refine (HPL.out x _).mono ?_); rintro _ u1 ⟨rfl, hb⟩)
    have T : CF u1 w.heap.size 0 (.int .i64 x.l) ∧ CF u1 w.heap.size 1 (.int .i64 x.c) ∧ CF u1 w.heap.size 2 (.bool x.r) ∧ CF u1 w.heap.size 3 (.bool x.a) ∧ CF u1 w.heap.size 4 (.bool x.s) ∧ CF u1 w.heap.size 5 (.bool x.g) ∧ CC u1 (w.heap.size + 1) 0 1 (.int .u8 a) (.int .u8 b) ∧ CC u1 (w.heap.size + 1) 2 3 (.int .u8 c) (.int .u8 e) := by
        refine ⟨⟨?_, ?_⟩, ⟨?_, ?_⟩, ⟨?_, ?_⟩, ⟨?_, ?_⟩, ⟨?_, ?_⟩, ⟨?_, ?_⟩, ⟨?_, ?_⟩, ⟨?_, ?_⟩⟩ <;> first | (refine kc hb ?_ <;> (go_simp; first | done | rfl)) | (refine kfz hb ?_ ?_ <;> first | (go_size; done) | (go_simp; done))
    have hz := hb.size
    (try simp only [World.size_alloc, World.size_setCell, World.size_drew] at hz)
    have L : w.heap.size < u1.heap.size ∧ w.heap.size + 1 < u1.heap.size := by omega
    have hB' : Below w.heap.size w u1 := by
        refine kb ?_ hb
        go_grown
    clear hb hz
    obtain ⟨⟨ht_0, ft_0⟩, ⟨ht_1, ft_1⟩, ⟨ht_2, ft_2⟩, ⟨ht_3, ft_3⟩, ⟨ht_4, ft_4⟩, ⟨ht_5, ft_5⟩, ⟨hv_0, hv_1⟩, ⟨hv_2, hv_3⟩⟩ := T
    obtain ⟨hlt, hlv⟩ := L
    obtain ⟨hnt0, hnt1, hkt1, hnt2, hkt2⟩ := ap0 hlt
    obtain ⟨hnv0, hkv1⟩ := ap1 hlv
    have hB := hB'; clear hB'
    have hsz := hB.size
    go_wp2_with fail
    ((with_reducible refine (HMY.out _).mono ?_); rintro _ u2 ⟨rfl, hb⟩)
    have T : CF u2 w.heap.size 0 (.int .i64 x.l) ∧ CF u2 w.heap.size 1 (.int .i64 x.c) ∧ CF u2 w.heap.size 2 (.bool x.r) ∧ CF u2 w.heap.size 3 (.bool x.a) ∧ CF u2 w.heap.size 4 (.bool x.s) ∧ CF u2 w.heap.size 5 (.bool x.g) ∧ CC u2 (w.heap.size + 1) 0 1 (.int .u8 a) (.int .u8 b) ∧ CC u2 (w.heap.size + 1) 2 3 (.int .u8 c) (.int .u8 e) := by
        refine ⟨⟨?_, ?_⟩, ⟨?_, ?_⟩, ⟨?_, ?_⟩, ⟨?_, ?_⟩, ⟨?_, ?_⟩, ⟨?_, ?_⟩, ⟨?_, ?_⟩, ⟨?_, ?_⟩⟩ <;> first | (refine kc hb ?_ <;> (go_simp; first | done | rfl)) | (refine kfz hb ?_ ?_ <;> first | (go_size; done) | (go_simp; done))
    have hz := hb.size
    (try simp only [World.size_alloc, World.size_setCell, World.size_drew] at hz)
    have L : w.heap.size < u2.heap.size ∧ w.heap.size + 1 < u2.heap.size := by omega
    have hB' : Below w.heap.size w u2 := by
        refine kb ?_ hb
        go_grown
    clear ht_0 ft_0 ht_1 ft_1 ht_2 ft_2 ht_3 ft_3 ht_4 ft_4 ht_5 ft_5 hv_0 hv_1 hv_2 hv_3 hlt hlv hnt0 hnt1 hkt1 hnt2 hkt2 hnv0 hkv1 hB hsz
    clear hb hz
    obtain ⟨⟨ht_0, ft_0⟩, ⟨ht_1, ft_1⟩, ⟨ht_2, ft_2⟩, ⟨ht_3, ft_3⟩, ⟨ht_4, ft_4⟩, ⟨ht_5, ft_5⟩, ⟨hv_0, hv_1⟩, ⟨hv_2, hv_3⟩⟩ := T
    obtain ⟨hlt, hlv⟩ := L
    obtain ⟨hnt0, hnt1, hkt1, hnt2, hkt2⟩ := ap0 hlt
    obtain ⟨hnv0, hkv1⟩ := ap1 hlv
    have hB := hB'; clear hB'
    have hsz := hB.size
    go_wp2_with fail
    ((with_reducible refine (awake10_c _).mono ?_); rintro _ u3 ⟨rfl, hb⟩)
    have T : CF u3 w.heap.size 0 (.int .i64 x.l) ∧ CF u3 w.heap.size 1 (.int .i64 x.c) ∧ CF u3 w.heap.size 2 (.bool x.r) ∧ CF u3 w.heap.size 3 (.bool x.a) ∧ CF u3 w.heap.size 4 (.bool x.s) ∧ CF u3 w.heap.size 5 (.bool x.g) ∧ CC u3 (w.heap.size + 1) 0 1 (.int .u8 a) (.int .u8 b) ∧ CC u3 (w.heap.size + 1) 2 3 (.int .u8 c) (.int .u8 e) := by
        refine ⟨⟨?_, ?_⟩, ⟨?_, ?_⟩, ⟨?_, ?_⟩, ⟨?_, ?_⟩, ⟨?_, ?_⟩, ⟨?_, ?_⟩, ⟨?_, ?_⟩, ⟨?_, ?_⟩⟩ <;> first | (refine kc hb ?_ <;> (go_simp; first | done | rfl)) | (refine kfz hb ?_ ?_ <;> first | (go_size; done) | (go_simp; done))
    have hz := hb.size
    (try simp only [World.size_alloc, World.size_setCell, World.size_drew] at hz)
    have L : w.heap.size < u3.heap.size ∧ w.heap.size + 1 < u3.heap.size := by omega
    have hB' : Below w.heap.size w u3 := by
        refine kb ?_ hb
        go_grown
    clear ht_0 ft_0 ht_1 ft_1 ht_2 ft_2 ht_3 ft_3 ht_4 ft_4 ht_5 ft_5 hv_0 hv_1 hv_2 hv_3 hlt hlv hnt0 hnt1 hkt1 hnt2 hkt2 hnv0 hkv1 hB hsz
    clear hb hz
    obtain ⟨⟨ht_0, ft_0⟩, ⟨ht_1, ft_1⟩, ⟨ht_2, ft_2⟩, ⟨ht_3, ft_3⟩, ⟨ht_4, ft_4⟩, ⟨ht_5, ft_5⟩, ⟨hv_0, hv_1⟩, ⟨hv_2, hv_3⟩⟩ := T
    obtain ⟨hlt, hlv⟩ := L
    obtain ⟨hnt0, hnt1, hkt1, hnt2, hkt2⟩ := ap0 hlt
    obtain ⟨hnv0, hkv1⟩ := ap1 hlv
    have hB := hB'; clear hB'
    have hsz := hB.size
    go_wp2
    go_ret
    exact ⟨rfl, by go_grown⟩
  · have hx := (mayT_iff x).1 hm
    rw [hm] at HMY
    obtain ⟨ha, hb, hc, he⟩ := ha
    obtain ⟨X1, hX1⟩ : ∃ Y, writeT x 0 a = Y := ⟨_, rfl⟩
    have m1 : X1.May := by rw [← hX1]; exact writeT_may x 0 a hx ha
    have l1 : X1.l = x.l / 256 * 256 + a := by rw [← hX1]; rfl
    obtain ⟨X2, hX2⟩ : ∃ Y, writeT X1 1 b = Y := ⟨_, rfl⟩
    have m2 : X2.May := by rw [← hX2]; exact writeT_may X1 1 b m1 hb
    have l2 : X2.l = a + 256 * b := by
      have : X2.l = X1.l % 256 + 256 * b := by rw [← hX2]; rfl
      rw [this, l1]; omega
    obtain ⟨X3, hX3⟩ : ∃ Y, writeT X2 2 c = Y := ⟨_, rfl⟩
    have m3 : X3.May := by rw [← hX3]; exact writeT_may X2 2 c m2 hc
    have l3 : X3 = ctlT X2 c := hX3.symm
    have r3 : readT X3 2 = c % 8 := by
      rw [l3, ← ctrl_on c hc]; rfl
    have on3 : (c % 2 == 1) = false ∨ (c % 2 == 1) = true ∧ X3.c = X3.l := by
      have e1 : (c % 2 == 1) = onT c 1 := by unfold onT; rw [Int.ediv_one]
      rw [e1]
      cases h : onT c 1
      · exact .inl rfl
      · refine .inr ⟨rfl, ?_⟩
        rw [l3]; unfold ctlT; dsimp only; rw [h]; rfl
    obtain ⟨X4, hX4⟩ : ∃ Y, writeT X3 3 e = Y := ⟨_, rfl⟩
    have m4 : X4.May := by rw [← hX4]; exact writeT_may X3 3 e m3 he
    have l4 : X4 = ⟨X3.l, X3.c, X3.r, X3.a, X3.s, false⟩ := hX4.symm
    have HW0 := Lib.hid (fun tb W h => writep_x 0 a ha tb 0 x hx W h)
    have HW1 := Lib.hid (fun tb W h => writep_x 1 b hb tb 0 X1 m1 W h)
    have HW2 := Lib.hid (fun tb W h => writep_x 2 c hc tb 0 X2 m2 W h)
    have HW3 := Lib.hid (fun tb W h => writep_x 3 e he tb 0 X3 m3 W h)
    have HR2 := Lib.hid (fun tb W h => readp_t 2 tb 0 X3 m3 W h)
    have HR0 := Lib.hid (fun tb W h => readp_t 0 tb 0 X3 m3 W h)
    have HR1 := Lib.hid (fun tb W h => readp_t 1 tb 0 X3 m3 W h)
    have HR3 := Lib.hid (fun tb W h => readp_t 3 tb 0 X4 m4 W h)
    have HIQ := Lib.hid (fun tb W h => irqp_c tb 0 X4 W h)
    rw [hX1, show regE 0 = 0 from rfl] at HW0
    rw [hX2, show regE 1 = 0 from rfl] at HW1
    rw [hX3, show regE 2 = 0 from rfl] at HW2
    rw [hX4, show regE 3 = 0 from rfl] at HW3
    rw [r3, show regE 2 = 0 from rfl] at HR2
    rw [show readT X3 0 = X3.c % 256 from rfl, show regE 0 = 0 from rfl] at HR0
    rw [show readT X3 1 = X3.c / 256 from rfl, show regE 1 = 0 from rfl] at HR1
    rw [show readT X4 3 = 0 by rw [l4]; rfl, show regE 3 = 0 from rfl] at HR3
    rw [show (X4.g && X4.s) = false by rw [l4]; rfl] at HIQ
    obtain ⟨p, hp⟩ : ∃ p, X3.c % 256 = p := ⟨_, rfl⟩
    obtain ⟨q, hq⟩ : ∃ p, X3.c / 256 = p := ⟨_, rfl⟩
    rw [hp] at HR0
    rw [hq] at HR1
    have hpq : p + 256 * q = X3.c := by omega
    have hpp : 0 ≤ p ∧ p ≤ 255 := by omega
    have hqq : 0 ≤ q ∧ q ≤ 255 := by have := m3.2; omega
    obtain ⟨L2, hL2⟩ : ∃ L, a + 256 * b = L := ⟨_, rfl⟩
    rw [hL2] at l2
    have hLL : 0 ≤ L2 ∧ L2 < 65536 := by omega
    have wp : IntKind.i64.wrap p = p := IntWalk.i64_in _ (by omega)
    have wq : IntKind.i64.wrap q = q := IntWalk.i64_in _ (by omega)
    have wa : IntKind.i64.wrap a = a := IntWalk.i64_in _ (by omega)
    have wb : IntKind.i64.wrap b = b := IntWalk.i64_in _ (by omega)
    have dL : (X2.l == L2) = true := by simpa using l2
    have dL' : (X2.l != L2) = false := by simpa using l2
    have on4 : (c % 2 == 1) = false ∨ (c % 2 == 1) = true ∧ (X3.c != X3.l) = false := by
      rcases on3 with h | ⟨h, h2⟩
      · exact .inl h
      · exact .inr ⟨h, by simpa using h2⟩
    clear hX1 hX2 hX3 hX4 m1 m2 m3 m4 l1 l2 l3 r3 on3 hm hx hp hq
    subst l4
    rcases on4 with on4 | ⟨on4, on5⟩
    all_goals
      go_enter Try.func8, Try.ntmps8
      go_wp2_with fail
      ((with_reducible refine (HPL.out x _).mono ?_); rintro _ u1 ⟨rfl, hb⟩)
      have T : CF u1 w.heap.size 0 (.int .i64 x.l) ∧ CF u1 w.heap.size 1 (.int .i64 x.c) ∧ CF u1 w.heap.size 2 (.bool x.r) ∧ CF u1 w.heap.size 3 (.bool x.a) ∧ CF u1 w.heap.size 4 (.bool x.s) ∧ CF u1 w.heap.size 5 (.bool x.g) ∧ CC u1 (w.heap.size + 1) 0 1 (.int .u8 a) (.int .u8 b) ∧ CC u1 (w.heap.size + 1) 2 3 (.int .u8 c) (.int .u8 e) := by
          refine ⟨⟨?_, ?_⟩, ⟨?_, ?_⟩, ⟨?_, ?_⟩, ⟨?_, ?_⟩, ⟨?_, ?_⟩, ⟨?_, ?_⟩, ⟨?_, ?_⟩, ⟨?_, ?_⟩⟩ <;> first | (refine kc hb ?_ <;> (go_simp; first | done | rfl)) | (refine kfz hb ?_ ?_ <;> first | (go_size; done) | (go_simp; done))
      have hz := hb.size
      (try simp only [World.size_alloc, World.size_setCell, World.size_drew] at hz)
      have L : w.heap.size < u1.heap.size ∧ w.heap.size + 1 < u1.heap.size := by omega
      have hB' : Below w.heap.size w u1 := by
          refine kb ?_ hb
          go_grown
      clear hb hz
      obtain ⟨⟨ht_0, ft_0⟩, ⟨ht_1, ft_1⟩, ⟨ht_2, ft_2⟩, ⟨ht_3, ft_3⟩, ⟨ht_4, ft_4⟩, ⟨ht_5, ft_5⟩, ⟨hv_0, hv_1⟩, ⟨hv_2, hv_3⟩⟩ := T
      obtain ⟨hlt, hlv⟩ := L
      obtain ⟨hnt0, hnt1, hkt1, hnt2, hkt2⟩ := ap0 hlt
      obtain ⟨hnv0, hkv1⟩ := ap1 hlv
      have hB := hB'; clear hB'
      have hsz := hB.size
      go_wp2_with fail
      ((with_reducible refine (HMY.out _).mono ?_); rintro _ u2 ⟨rfl, hb⟩)
      have T : CF u2 w.heap.size 0 (.int .i64 x.l) ∧ CF u2 w.heap.size 1 (.int .i64 x.c) ∧ CF u2 w.heap.size 2 (.bool x.r) ∧ CF u2 w.heap.size 3 (.bool x.a) ∧ CF u2 w.heap.size 4 (.bool x.s) ∧ CF u2 w.heap.size 5 (.bool x.g) ∧ CC u2 (w.heap.size + 1) 0 1 (.int .u8 a) (.int .u8 b) ∧ CC u2 (w.heap.size + 1) 2 3 (.int .u8 c) (.int .u8 e) := by
          refine ⟨⟨?_, ?_⟩, ⟨?_, ?_⟩, ⟨?_, ?_⟩, ⟨?_, ?_⟩, ⟨?_, ?_⟩, ⟨?_, ?_⟩, ⟨?_, ?_⟩, ⟨?_, ?_⟩⟩ <;> first | (refine kc hb ?_ <;> (go_simp; first | done | rfl)) | (refine kfz hb ?_ ?_ <;> first | (go_size; done) | (go_simp; done))
      have hz := hb.size
      (try simp only [World.size_alloc, World.size_setCell, World.size_drew] at hz)
      have L : w.heap.size < u2.heap.size ∧ w.heap.size + 1 < u2.heap.size := by omega
      have hB' : Below w.heap.size w u2 := by
          refine kb ?_ hb
          go_grown
      clear ht_0 ft_0 ht_1 ft_1 ht_2 ft_2 ht_3 ft_3 ht_4 ft_4 ht_5 ft_5 hv_0 hv_1 hv_2 hv_3 hlt hlv hnt0 hnt1 hkt1 hnt2 hkt2 hnv0 hkv1 hB hsz
      clear hb hz
      obtain ⟨⟨ht_0, ft_0⟩, ⟨ht_1, ft_1⟩, ⟨ht_2, ft_2⟩, ⟨ht_3, ft_3⟩, ⟨ht_4, ft_4⟩, ⟨ht_5, ft_5⟩, ⟨hv_0, hv_1⟩, ⟨hv_2, hv_3⟩⟩ := T
      obtain ⟨hlt, hlv⟩ := L
      obtain ⟨hnt0, hnt1, hkt1, hnt2, hkt2⟩ := ap0 hlt
      obtain ⟨hnv0, hkv1⟩ := ap1 hlv
      have hB := hB'; clear hB'
      have hsz := hB.size
      go_wp2_with fail
      ((with_reducible refine (HW0.out _ _ (Tw.mk0 (by go_simp) (by go_simp) (by go_simp) (by go_simp) (by go_simp) (by go_simp) (by go_simp) (by go_simp) (by go_simp) (by go_simp) (by go_simp) (by go_simp))).mono ?_); rintro _ u3 ⟨rfl, hb, hT⟩)
      have hs_u3 := Lib.hid hb
      have T : CC u3 (w.heap.size + 1) 0 1 (.int .u8 a) (.int .u8 b) ∧ CC u3 (w.heap.size + 1) 2 3 (.int .u8 c) (.int .u8 e) := by
          refine ⟨⟨?_, ?_⟩, ⟨?_, ?_⟩⟩ <;> (refine kg hb ?_ ?_; (· omega); (· (go_simp; first | done | rfl)))
      have hz := hb.size
      (try simp only [World.size_alloc, World.size_setCell, World.size_drew] at hz)
      have L : w.heap.size + 1 < u3.heap.size := by omega
      have hB' : Below w.heap.size w u3 := by
          refine below_grown2 ?_ hb (by omega)
          go_grown
      clear ht_0 ft_0 ht_1 ft_1 ht_2 ft_2 ht_3 ft_3 ht_4 ft_4 ht_5 ft_5 hv_0 hv_1 hv_2 hv_3 hlt hlv hnt0 hnt1 hkt1 hnt2 hkt2 hnv0 hkv1 hB hsz
      clear hb hz
      obtain ⟨⟨hv_0, hv_1⟩, ⟨hv_2, hv_3⟩⟩ := T
      have hlv := L; clear L
      obtain ⟨hnv0, hnv1, hkv1, hnv2, hkv2⟩ := ap1f hlv
      have hB := hB'; clear hB'
      have hsz := hB.size
      have hltt := hT.lt
      obtain ⟨ht1_0, ht1_1, ht1_2, ht1_3, ht1_4, ht1_5⟩ := hT.at0
      obtain ⟨ft1_0, ft1_1, ft1_2, ft1_3, ft1_4, ft1_5⟩ := hT.free0
      clear hT
      go_wp2_with fail
      ((with_reducible refine (HW1.out _ _ (Tw.mk0 (by go_simp) (by go_simp) (by go_simp) (by go_simp) (by go_simp) (by go_simp) (by go_simp) (by go_simp) (by go_simp) (by go_simp) (by go_simp) (by go_simp))).mono ?_); rintro _ u4 ⟨rfl, hb, hT⟩)
      have hs_u4 := Lib.hid hb
      have T : CC u4 (w.heap.size + 1) 0 1 (.int .u8 a) (.int .u8 b) ∧ CC u4 (w.heap.size + 1) 2 3 (.int .u8 c) (.int .u8 e) := by
          refine ⟨⟨?_, ?_⟩, ⟨?_, ?_⟩⟩ <;> (refine kg hb ?_ ?_; (· omega); (· (go_simp; first | done | rfl)))
      have hz := hb.size
      (try simp only [World.size_alloc, World.size_setCell, World.size_drew] at hz)
      have L : w.heap.size + 1 < u4.heap.size := by omega
      have hB' : Below w.heap.size w u4 := by
          refine below_grown2 ?_ hb (by omega)
          go_grown
      clear hv_0 hv_1 hv_2 hv_3 hlv hnv0 hnv1 hkv1 hnv2 hkv2 hB hsz
      clear hb hz
      obtain ⟨⟨hv_0, hv_1⟩, ⟨hv_2, hv_3⟩⟩ := T
      have hlv := L; clear L
      obtain ⟨hnv0, hnv1, hkv1, hnv2, hkv2⟩ := ap1f hlv
      have hB := hB'; clear hB'
      have hsz := hB.size
      clear ht1_0 ht1_1 ht1_2 ht1_3 ht1_4 ht1_5 ft1_0 ft1_1 ft1_2 ft1_3 ft1_4 ft1_5 hltt
      have hltt := hT.lt
      obtain ⟨ht2_0, ht2_1, ht2_2, ht2_3, ht2_4, ht2_5⟩ := hT.at0
      obtain ⟨ft2_0, ft2_1, ft2_2, ft2_3, ft2_4, ft2_5⟩ := hT.free0
      clear hT
      go_wp2_with fail
      ((with_reducible refine (HW2.out _ _ (Tw.mk0 (by go_simp) (by go_simp) (by go_simp) (by go_simp) (by go_simp) (by go_simp) (by go_simp) (by go_simp) (by go_simp) (by go_simp) (by go_simp) (by go_simp))).mono ?_); rintro _ u5 ⟨rfl, hb, hT⟩)
      have hs_u5 := Lib.hid hb
      have T : CC u5 (w.heap.size + 1) 0 1 (.int .u8 a) (.int .u8 b) ∧ CC u5 (w.heap.size + 1) 2 3 (.int .u8 c) (.int .u8 e) := by
          refine ⟨⟨?_, ?_⟩, ⟨?_, ?_⟩⟩ <;> (refine kg hb ?_ ?_; (· omega); (· (go_simp; first | done | rfl)))
      have hz := hb.size
      (try simp only [World.size_alloc, World.size_setCell, World.size_drew] at hz)
      have L : w.heap.size + 1 < u5.heap.size := by omega
      have hB' : Below w.heap.size w u5 := by
          refine below_grown2 ?_ hb (by omega)
          go_grown
      clear hv_0 hv_1 hv_2 hv_3 hlv hnv0 hnv1 hkv1 hnv2 hkv2 hB hsz
      clear hb hz
      obtain ⟨⟨hv_0, hv_1⟩, ⟨hv_2, hv_3⟩⟩ := T
      have hlv := L; clear L
      obtain ⟨hnv0, hnv1, hkv1, hnv2, hkv2⟩ := ap1f hlv
      have hB := hB'; clear hB'
      have hsz := hB.size
      clear ht2_0 ht2_1 ht2_2 ht2_3 ht2_4 ht2_5 ft2_0 ft2_1 ft2_2 ft2_3 ft2_4 ft2_5 hltt
      have hltt := hT.lt
      obtain ⟨ht3_0, ht3_1, ht3_2, ht3_3, ht3_4, ht3_5⟩ := hT.at0
      obtain ⟨ft3_0, ft3_1, ft3_2, ft3_3, ft3_4, ft3_5⟩ := hT.free0
      clear hT
      go_wp2_with fail
      ((with_reducible refine (HR2.out _ _ (Tw.mk0 (by go_simp) (by go_simp) (by go_simp) (by go_simp) (by go_simp) (by go_simp) (by go_simp) (by go_simp) (by go_simp) (by go_simp) (by go_simp) (by go_simp))).mono ?_); rintro _ u6 ⟨rfl, hb⟩)
      have T : CF u6 w.heap.size 0 (.int .i64 X3.l) ∧ CF u6 w.heap.size 1 (.int .i64 X3.c) ∧ CF u6 w.heap.size 2 (.bool X3.r) ∧ CF u6 w.heap.size 3 (.bool X3.a) ∧ CF u6 w.heap.size 4 (.bool X3.s) ∧ CF u6 w.heap.size 5 (.bool X3.g) ∧ CC u6 (w.heap.size + 1) 0 1 (.int .u8 a) (.int .u8 b) ∧ CC u6 (w.heap.size + 1) 2 3 (.int .u8 c) (.int .u8 e) := by
          refine ⟨⟨?_, ?_⟩, ⟨?_, ?_⟩, ⟨?_, ?_⟩, ⟨?_, ?_⟩, ⟨?_, ?_⟩, ⟨?_, ?_⟩, ⟨?_, ?_⟩, ⟨?_, ?_⟩⟩ <;> first | (refine kc hb ?_ <;> (go_simp; first | done | rfl)) | (refine kfz hb ?_ ?_ <;> first | (go_size; done) | (go_simp; done))
      have hz := hb.size
      (try simp only [World.size_alloc, World.size_setCell, World.size_drew] at hz)
      have L : w.heap.size < u6.heap.size ∧ w.heap.size + 1 < u6.heap.size := by omega
      have hB' : Below w.heap.size w u6 := by
          refine kb ?_ hb
          go_grown
      clear hv_0 hv_1 hv_2 hv_3 hlv hnv0 hnv1 hkv1 hnv2 hkv2 hB hsz
      clear hb hz
      obtain ⟨⟨ht3_0, ft3_0⟩, ⟨ht3_1, ft3_1⟩, ⟨ht3_2, ft3_2⟩, ⟨ht3_3, ft3_3⟩, ⟨ht3_4, ft3_4⟩, ⟨ht3_5, ft3_5⟩, ⟨hv_0, hv_1⟩, ⟨hv_2, hv_3⟩⟩ := T
      obtain ⟨hlt3, hlv⟩ := L
      obtain ⟨hnt30, hnt31, hkt31, hnt32, hkt32⟩ := ap0 hlt3
      obtain ⟨hnv0, hkv1⟩ := ap1 hlv
      have hB := hB'; clear hB'
      have hsz := hB.size
      have hzs : w.heap.size < u6.heap.size := hlt3
      have hzs2 : ¬ (u6.heap.size = w.heap.size) := by omega
      have hzs3 : ¬ (w.heap.size = u6.heap.size) := by omega
      go_wp2_with fail
      ((with_reducible refine (HR0.out _ _ (Tw.mk0 (by go_simp) (by go_simp) (by go_simp) (by go_simp) (by go_simp) (by go_simp) (by go_simp) (by go_simp) (by go_simp) (by go_simp) (by go_simp) (by go_simp))).mono ?_); rintro _ u7 ⟨rfl, hb⟩)
      have T : CF u7 w.heap.size 0 (.int .i64 X3.l) ∧ CF u7 w.heap.size 1 (.int .i64 X3.c) ∧ CF u7 w.heap.size 2 (.bool X3.r) ∧ CF u7 w.heap.size 3 (.bool X3.a) ∧ CF u7 w.heap.size 4 (.bool X3.s) ∧ CF u7 w.heap.size 5 (.bool X3.g) ∧ CC u7 (w.heap.size + 1) 0 1 (.int .u8 a) (.int .u8 b) ∧ CC u7 (w.heap.size + 1) 2 3 (.int .u8 c) (.int .u8 e) ∧ CF u7 u6.heap.size 0 (.int .i64 X3.l) ∧ CF u7 u6.heap.size 1 (.int .i64 X3.c) ∧ CF u7 u6.heap.size 2 (.bool X3.r) ∧ CF u7 u6.heap.size 3 (.bool X3.a) ∧ CF u7 u6.heap.size 4 (.bool X3.s) ∧ CF u7 u6.heap.size 5 (.bool X3.g) := by
          refine ⟨⟨?_, ?_⟩, ⟨?_, ?_⟩, ⟨?_, ?_⟩, ⟨?_, ?_⟩, ⟨?_, ?_⟩, ⟨?_, ?_⟩, ⟨?_, ?_⟩, ⟨?_, ?_⟩, ⟨?_, ?_⟩, ⟨?_, ?_⟩, ⟨?_, ?_⟩, ⟨?_, ?_⟩, ⟨?_, ?_⟩, ⟨?_, ?_⟩⟩ <;> first | (refine kc hb ?_ <;> (go_simp; first | done | rfl)) | (refine kfz hb ?_ ?_ <;> first | (go_size; done) | (go_simp; done))
      have hz := hb.size
      (try simp only [World.size_alloc, World.size_setCell, World.size_drew] at hz)
      have L : w.heap.size < u7.heap.size ∧ w.heap.size + 1 < u7.heap.size ∧ u6.heap.size < u7.heap.size := by omega
      have hB' : Below w.heap.size w u7 := by
          refine kb ?_ hb
          go_grown
      clear ht3_0 ft3_0 ht3_1 ft3_1 ht3_2 ft3_2 ht3_3 ft3_3 ht3_4 ft3_4 ht3_5 ft3_5 hv_0 hv_1 hv_2 hv_3 hlt3 hlv hnt30 hnt31 hkt31 hnt32 hkt32 hnv0 hkv1 hB hsz
      clear hb hz
      obtain ⟨⟨ht3_0, ft3_0⟩, ⟨ht3_1, ft3_1⟩, ⟨ht3_2, ft3_2⟩, ⟨ht3_3, ft3_3⟩, ⟨ht3_4, ft3_4⟩, ⟨ht3_5, ft3_5⟩, ⟨hv_0, hv_1⟩, ⟨hv_2, hv_3⟩, ⟨hs_0, fs_0⟩, ⟨hs_1, fs_1⟩, ⟨hs_2, fs_2⟩, ⟨hs_3, fs_3⟩, ⟨hs_4, fs_4⟩, ⟨hs_5, fs_5⟩⟩ := T
      obtain ⟨hlt3, hlv, hls⟩ := L
      obtain ⟨hnt30, hnt31, hkt31, hnt32, hkt32⟩ := ap0 hlt3
      obtain ⟨hnv0, hkv1⟩ := ap1 hlv
      obtain ⟨hns0, hns1, hks1, hns2, hks2⟩ := ap0 hls
      have hB := hB'; clear hB'
      have hsz := hB.size
      go_wp2_with fail
      ((with_reducible refine (HR1.out _ _ (Tw.mk0 (by go_simp) (by go_simp) (by go_simp) (by go_simp) (by go_simp) (by go_simp) (by go_simp) (by go_simp) (by go_simp) (by go_simp) (by go_simp) (by go_simp))).mono ?_); rintro _ u8 ⟨rfl, hb⟩)
      have T : CF u8 w.heap.size 0 (.int .i64 X3.l) ∧ CF u8 w.heap.size 1 (.int .i64 X3.c) ∧ CF u8 w.heap.size 2 (.bool X3.r) ∧ CF u8 w.heap.size 3 (.bool X3.a) ∧ CF u8 w.heap.size 4 (.bool X3.s) ∧ CF u8 w.heap.size 5 (.bool X3.g) ∧ CC u8 (w.heap.size + 1) 0 1 (.int .u8 a) (.int .u8 b) ∧ CC u8 (w.heap.size + 1) 2 3 (.int .u8 c) (.int .u8 e) ∧ CF u8 u6.heap.size 0 (.int .i64 X3.l) ∧ CF u8 u6.heap.size 1 (.int .i64 X3.c) ∧ CF u8 u6.heap.size 2 (.bool X3.r) ∧ CF u8 u6.heap.size 3 (.bool X3.a) ∧ CF u8 u6.heap.size 4 (.bool X3.s) ∧ CF u8 u6.heap.size 5 (.bool X3.g) := by
          refine ⟨⟨?_, ?_⟩, ⟨?_, ?_⟩, ⟨?_, ?_⟩, ⟨?_, ?_⟩, ⟨?_, ?_⟩, ⟨?_, ?_⟩, ⟨?_, ?_⟩, ⟨?_, ?_⟩, ⟨?_, ?_⟩, ⟨?_, ?_⟩, ⟨?_, ?_⟩, ⟨?_, ?_⟩, ⟨?_, ?_⟩, ⟨?_, ?_⟩⟩ <;> first | (refine kc hb ?_ <;> (go_simp; first | done | rfl)) | (refine kfz hb ?_ ?_ <;> first | (go_size; done) | (go_simp; done))
      have hz := hb.size
      (try simp only [World.size_alloc, World.size_setCell, World.size_drew] at hz)
      have L : w.heap.size < u8.heap.size ∧ w.heap.size + 1 < u8.heap.size ∧ u6.heap.size < u8.heap.size := by omega
      have hB' : Below w.heap.size w u8 := by
          refine kb ?_ hb
          go_grown
      clear ht3_0 ft3_0 ht3_1 ft3_1 ht3_2 ft3_2 ht3_3 ft3_3 ht3_4 ft3_4 ht3_5 ft3_5 hv_0 hv_1 hv_2 hv_3 hs_0 fs_0 hs_1 fs_1 hs_2 fs_2 hs_3 fs_3 hs_4 fs_4 hs_5 fs_5 hlt3 hlv hls hnt30 hnt31 hkt31 hnt32 hkt32 hnv0 hkv1 hns0 hns1 hks1 hns2 hks2 hB hsz
      clear hb hz
      obtain ⟨⟨ht3_0, ft3_0⟩, ⟨ht3_1, ft3_1⟩, ⟨ht3_2, ft3_2⟩, ⟨ht3_3, ft3_3⟩, ⟨ht3_4, ft3_4⟩, ⟨ht3_5, ft3_5⟩, ⟨hv_0, hv_1⟩, ⟨hv_2, hv_3⟩, ⟨hs_0, fs_0⟩, ⟨hs_1, fs_1⟩, ⟨hs_2, fs_2⟩, ⟨hs_3, fs_3⟩, ⟨hs_4, fs_4⟩, ⟨hs_5, fs_5⟩⟩ := T
      obtain ⟨hlt3, hlv, hls⟩ := L
      obtain ⟨hnt30, hnt31, hkt31, hnt32, hkt32⟩ := ap0 hlt3
      obtain ⟨hnv0, hkv1⟩ := ap1 hlv
      obtain ⟨hns0, hns1, hks1, hns2, hks2⟩ := ap0 hls
      have hB := hB'; clear hB'
      have hsz := hB.size
      go_wp2_with fail
      ((with_reducible refine (HW3.out _ _ (Tw.mk0 (by go_simp) (by go_simp) (by go_simp) (by go_simp) (by go_simp) (by go_simp) (by go_simp) (by go_simp) (by go_simp) (by go_simp) (by go_simp) (by go_simp))).mono ?_); rintro _ u9 ⟨rfl, hb, hT⟩)
      have hs_u9 := Lib.hid hb
      have T : CC u9 (w.heap.size + 1) 0 1 (.int .u8 a) (.int .u8 b) ∧ CC u9 (w.heap.size + 1) 2 3 (.int .u8 c) (.int .u8 e) ∧ CF u9 u6.heap.size 0 (.int .i64 X3.l) ∧ CF u9 u6.heap.size 1 (.int .i64 X3.c) ∧ CF u9 u6.heap.size 2 (.bool X3.r) ∧ CF u9 u6.heap.size 3 (.bool X3.a) ∧ CF u9 u6.heap.size 4 (.bool X3.s) ∧ CF u9 u6.heap.size 5 (.bool X3.g) := by
          refine ⟨⟨?_, ?_⟩, ⟨?_, ?_⟩, ⟨?_, ?_⟩, ⟨?_, ?_⟩, ⟨?_, ?_⟩, ⟨?_, ?_⟩, ⟨?_, ?_⟩, ⟨?_, ?_⟩⟩ <;> first | (refine kg hb ?_ ?_; (· omega); (· (go_simp; first | done | rfl))) | (refine kgf hb ?_ ?_ ?_; (· omega); (· first | go_size | omega | (simp only [World.size_alloc, World.size_setCell, World.size_drew]; omega)); (· (go_simp; first | done | rfl)))
      have hz := hb.size
      (try simp only [World.size_alloc, World.size_setCell, World.size_drew] at hz)
      have L : w.heap.size + 1 < u9.heap.size ∧ u6.heap.size < u9.heap.size := by omega
      have hB' : Below w.heap.size w u9 := by
          refine below_grown2 ?_ hb (by omega)
          go_grown
      clear ht3_0 ft3_0 ht3_1 ft3_1 ht3_2 ft3_2 ht3_3 ft3_3 ht3_4 ft3_4 ht3_5 ft3_5 hv_0 hv_1 hv_2 hv_3 hs_0 fs_0 hs_1 fs_1 hs_2 fs_2 hs_3 fs_3 hs_4 fs_4 hs_5 fs_5 hlt3 hlv hls hnt30 hnt31 hkt31 hnt32 hkt32 hnv0 hkv1 hns0 hns1 hks1 hns2 hks2 hB hsz
      clear hb hz
      obtain ⟨⟨hv_0, hv_1⟩, ⟨hv_2, hv_3⟩, ⟨hs_0, fs_0⟩, ⟨hs_1, fs_1⟩, ⟨hs_2, fs_2⟩, ⟨hs_3, fs_3⟩, ⟨hs_4, fs_4⟩, ⟨hs_5, fs_5⟩⟩ := T
      obtain ⟨hlv, hls⟩ := L
      obtain ⟨hnv0, hnv1, hkv1, hnv2, hkv2⟩ := ap1f hlv
      obtain ⟨hns0, hns1, hks1, hns2, hks2⟩ := ap0 hls
      have hB := hB'; clear hB'
      have hsz := hB.size
      have hltt := hT.lt
      obtain ⟨ht4_0, ht4_1, ht4_2, ht4_3, ht4_4, ht4_5⟩ := hT.at0
      obtain ⟨ft4_0, ft4_1, ft4_2, ft4_3, ft4_4, ft4_5⟩ := hT.free0
      dsimp only at ht4_0 ht4_1 ht4_2 ht4_3 ht4_4 ht4_5
      clear hT
      go_wp2_with fail
      ((with_reducible refine (HR3.out _ _ (Tw.mk0 (by go_simp) (by go_simp) (by go_simp) (by go_simp) (by go_simp) (by go_simp) (by go_simp) (by go_simp) (by go_simp) (by go_simp) (by go_simp) (by go_simp))).mono ?_); rintro _ u10 ⟨rfl, hb⟩)
      have T : CF u10 w.heap.size 0 (.int .i64 X3.l) ∧ CF u10 w.heap.size 1 (.int .i64 X3.c) ∧ CF u10 w.heap.size 2 (.bool X3.r) ∧ CF u10 w.heap.size 3 (.bool X3.a) ∧ CF u10 w.heap.size 4 (.bool X3.s) ∧ CF u10 w.heap.size 5 (.bool false) ∧ CF u10 u6.heap.size 0 (.int .i64 X3.l) ∧ CF u10 u6.heap.size 1 (.int .i64 X3.c) ∧ CF u10 u6.heap.size 2 (.bool X3.r) ∧ CF u10 u6.heap.size 3 (.bool X3.a) ∧ CF u10 u6.heap.size 4 (.bool X3.s) ∧ CF u10 u6.heap.size 5 (.bool X3.g) := by
          refine ⟨⟨?_, ?_⟩, ⟨?_, ?_⟩, ⟨?_, ?_⟩, ⟨?_, ?_⟩, ⟨?_, ?_⟩, ⟨?_, ?_⟩, ⟨?_, ?_⟩, ⟨?_, ?_⟩, ⟨?_, ?_⟩, ⟨?_, ?_⟩, ⟨?_, ?_⟩, ⟨?_, ?_⟩⟩ <;> first | (refine kc hb ?_ <;> (go_simp; first | done | rfl)) | (refine kfz hb ?_ ?_ <;> first | (go_size; done) | (go_simp; done))
      have hz := hb.size
      (try simp only [World.size_alloc, World.size_setCell, World.size_drew] at hz)
      have L : w.heap.size < u10.heap.size ∧ u6.heap.size < u10.heap.size := by omega
      have hB' : Below w.heap.size w u10 := by
          refine kb ?_ hb
          go_grown
      clear hv_0 hv_1 hv_2 hv_3 hs_0 fs_0 hs_1 fs_1 hs_2 fs_2 hs_3 fs_3 hs_4 fs_4 hs_5 fs_5 hlv hls hnv0 hnv1 hkv1 hnv2 hkv2 hns0 hns1 hks1 hns2 hks2 hB hsz
      clear hb hz
      obtain ⟨⟨ht4_0, ft4_0⟩, ⟨ht4_1, ft4_1⟩, ⟨ht4_2, ft4_2⟩, ⟨ht4_3, ft4_3⟩, ⟨ht4_4, ft4_4⟩, ⟨ht4_5, ft4_5⟩, ⟨hs_0, fs_0⟩, ⟨hs_1, fs_1⟩, ⟨hs_2, fs_2⟩, ⟨hs_3, fs_3⟩, ⟨hs_4, fs_4⟩, ⟨hs_5, fs_5⟩⟩ := T
      obtain ⟨hlt4, hls⟩ := L
      obtain ⟨hnt40, hnt41, hkt41, hnt42, hkt42⟩ := ap0 hlt4
      obtain ⟨hns0, hns1, hks1, hns2, hks2⟩ := ap0 hls
      have hB := hB'; clear hB'
      have hsz := hB.size
      go_wp2_with fail
      ((with_reducible refine (HIQ.out _ _ (Tw.mk0 (by go_simp) (by go_simp) (by go_simp) (by go_simp) (by go_simp) (by go_simp) (by go_simp) (by go_simp) (by go_simp) (by go_simp) (by go_simp) (by go_simp))).mono ?_); rintro _ u11 ⟨rfl, hb⟩)
      have T : CF u11 w.heap.size 0 (.int .i64 X3.l) ∧ CF u11 w.heap.size 1 (.int .i64 X3.c) ∧ CF u11 w.heap.size 2 (.bool X3.r) ∧ CF u11 w.heap.size 3 (.bool X3.a) ∧ CF u11 w.heap.size 4 (.bool X3.s) ∧ CF u11 w.heap.size 5 (.bool false) ∧ CC u11 u6.heap.size 0 1 (.int .i64 X3.l) (.int .i64 X3.c) ∧ CC u11 u6.heap.size 2 3 (.bool X3.r) (.bool X3.a) ∧ CC u11 u6.heap.size 4 5 (.bool X3.s) (.bool false) := by
          refine ⟨⟨?_, ?_⟩, ⟨?_, ?_⟩, ⟨?_, ?_⟩, ⟨?_, ?_⟩, ⟨?_, ?_⟩, ⟨?_, ?_⟩, ⟨?_, ?_⟩, ⟨?_, ?_⟩, ⟨?_, ?_⟩⟩ <;> first | (refine kc hb ?_ <;> (go_simp; first | done | rfl)) | (refine kfz hb ?_ ?_ <;> first | (go_size; done) | (go_simp; done))
      have hz := hb.size
      (try simp only [World.size_alloc, World.size_setCell, World.size_drew] at hz)
      have L : w.heap.size < u11.heap.size ∧ u6.heap.size < u11.heap.size := by omega
      have hB' : Below w.heap.size w u11 := by
          refine kb ?_ hb
          go_grown
      clear ht4_0 ft4_0 ht4_1 ft4_1 ht4_2 ft4_2 ht4_3 ft4_3 ht4_4 ft4_4 ht4_5 ft4_5 hs_0 fs_0 hs_1 fs_1 hs_2 fs_2 hs_3 fs_3 hs_4 fs_4 hs_5 fs_5 hlt4 hls hnt40 hnt41 hkt41 hnt42 hkt42 hns0 hns1 hks1 hns2 hks2 hB hsz
      clear hb hz
      obtain ⟨⟨ht4_0, ft4_0⟩, ⟨ht4_1, ft4_1⟩, ⟨ht4_2, ft4_2⟩, ⟨ht4_3, ft4_3⟩, ⟨ht4_4, ft4_4⟩, ⟨ht4_5, ft4_5⟩, ⟨hs4_0, hs4_1⟩, ⟨hs4_2, hs4_3⟩, ⟨hs4_4, hs4_5⟩⟩ := T
      obtain ⟨hlt4, hls4⟩ := L
      obtain ⟨hnt40, hnt41, hkt41, hnt42, hkt42⟩ := ap0 hlt4
      obtain ⟨hns40, hns41, hks41, hns42, hks42⟩ := ap0 hls4
      have hB := hB'; clear hB'
      have hsz := hB.size
      go_wp2_with fail
      ((with_reducible refine (awake10_c _).mono ?_); rintro _ u12 ⟨rfl, hb⟩)
      have T : CF u12 w.heap.size 0 (.int .i64 X3.l) ∧ CF u12 w.heap.size 1 (.int .i64 X3.c) ∧ CF u12 w.heap.size 2 (.bool X3.r) ∧ CF u12 w.heap.size 3 (.bool X3.a) ∧ CF u12 w.heap.size 4 (.bool X3.s) ∧ CF u12 w.heap.size 5 (.bool false) := by
          refine ⟨⟨?_, ?_⟩, ⟨?_, ?_⟩, ⟨?_, ?_⟩, ⟨?_, ?_⟩, ⟨?_, ?_⟩, ⟨?_, ?_⟩⟩ <;> first | (refine kc hb ?_ <;> (go_simp; first | done | rfl)) | (refine kfz hb ?_ ?_ <;> first | (go_size; done) | (go_simp; done))
      have hz := hb.size
      (try simp only [World.size_alloc, World.size_setCell, World.size_drew] at hz)
      have L : w.heap.size < u12.heap.size := by omega
      have hB' : Below w.heap.size w u12 := by
          refine kb ?_ hb
          go_grown
      clear ht4_0 ft4_0 ht4_1 ft4_1 ht4_2 ft4_2 ht4_3 ft4_3 ht4_4 ft4_4 ht4_5 ft4_5 hs4_0 hs4_1 hs4_2 hs4_3 hs4_4 hs4_5 hlt4 hls4 hnt40 hnt41 hkt41 hnt42 hkt42 hns40 hns41 hks41 hns42 hks42 hB hsz
      clear hb hz
      obtain ⟨⟨ht4_0, ft4_0⟩, ⟨ht4_1, ft4_1⟩, ⟨ht4_2, ft4_2⟩, ⟨ht4_3, ft4_3⟩, ⟨ht4_4, ft4_4⟩, ⟨ht4_5, ft4_5⟩⟩ := T
      have hlt4 := L; clear L
      obtain ⟨hnt40, hnt41, hkt41, hnt42, hkt42⟩ := ap0 hlt4
      have hB := hB'; clear hB'
      have hsz := hB.size
      go_wp2
      go_ret
      exact ⟨rfl, by go_grown⟩
end Go.Proofs.Ytcpegglfgfgekaa
