/-
  WheelTurns: its walk.
-/
import Derived.Test.YtkabpnchfhkhgaaTurns12
set_option linter.unusedSimpArgs false
set_option linter.unusedVariables false
namespace Go.Proofs.Ytkabpnchfhkhgaa
open Go.RowKit Go.PlainAid

set_option maxRecDepth 100000 in
set_option maxHeartbeats 16000000 in
theorem turns_walk (l : List Wc) (v : Value) (a b : Int) (w : World) (hv : HoldsW wcE 3 w v l) (hg : ∀ x ∈ l, wcG x) :
    Calls Try.prog 5 #[v, .agg #[.int .i64 a, .int .i64 b]] w fun e w' => e = .returned (.bool true) ∧ Below w.heap.size w w' := by
  obtain ⟨pv, cv0, rfl⟩ := hv.form
  have HV := Lib.hid hv
  have HG := Lib.hid hg
  clear hv hg
  generalize hln : l.length = n at *
  have HLN := Lib.hid hln
  clear hln
  by_cases h0 : 100 < n
  · have g0 : (100 : Int) < (n : Int) := by omega
    have hB : Below w.heap.size w w := Below.refl _ _
    go_enter Try.func5, Try.ntmps5
    go_wp2_with fail
    ((with_reducible refine (wnew_c _).mono ?_); rintro _ u1 ⟨wb, rfl, -, -, hb⟩)
    have hs_u1 := Lib.hid hb
    have T : CC u1 w.heap.size 0 1 (.int .i64 a) (.int .i64 b) := by
        refine ⟨?_, ?_⟩ <;> refine kc hb ?_ <;> (go_simp; first | done | rfl)
    have hz := hb.size
    (try simp only [World.size_alloc, World.size_setCell, World.size_drew] at hz)
    have L : w.heap.size < u1.heap.size := by omega
    have hB' : Below w.heap.size w u1 := by
        refine kb ?_ hb
        go_grown
    clear hb hz
    obtain ⟨hs_0, hs_1⟩ := T
    have hls := L; clear L
    obtain ⟨hns0, hns1, hks1, hns2, hks2⟩ := ap0 hls
    have hB := hB'; clear hB'
    have hsz := hB.size
    go_wp2_with fail
    ((with_reducible refine (awake12_c _).mono ?_); rintro _ u2 ⟨rfl, hb⟩)
    have hz := hb.size
    (try simp only [World.size_alloc, World.size_setCell, World.size_drew] at hz)
    have hB' : Below w.heap.size w u2 := by
        refine kb ?_ hb
        go_grown
    clear hs_0 hs_1 hls hns0 hns1 hks1 hns2 hks2 hB hsz
    clear hb hz
    have hB := hB'; clear hB'
    have hsz := hB.size
    go_wp2
    go_ret
    exact ⟨rfl, by go_grown⟩
  have g0 : ¬ (100 : Int) < (n : Int) := by omega
  by_cases h1 : a < 0
  · have g1 : a < 0 := h1
    have hB : Below w.heap.size w w := Below.refl _ _
    go_enter Try.func5, Try.ntmps5
    go_wp2_with fail
    ((with_reducible refine (wnew_c _).mono ?_); rintro _ u1 ⟨wb, rfl, -, -, hb⟩)
    have hs_u1 := Lib.hid hb
    have T : CC u1 w.heap.size 0 1 (.int .i64 a) (.int .i64 b) := by
        refine ⟨?_, ?_⟩ <;> refine kc hb ?_ <;> (go_simp; first | done | rfl)
    have hz := hb.size
    (try simp only [World.size_alloc, World.size_setCell, World.size_drew] at hz)
    have L : w.heap.size < u1.heap.size := by omega
    have hB' : Below w.heap.size w u1 := by
        refine kb ?_ hb
        go_grown
    clear hb hz
    obtain ⟨hs_0, hs_1⟩ := T
    have hls := L; clear L
    obtain ⟨hns0, hns1, hks1, hns2, hks2⟩ := ap0 hls
    have hB := hB'; clear hB'
    have hsz := hB.size
    go_wp2_with fail
    ((with_reducible refine (awake12_c _).mono ?_); rintro _ u2 ⟨rfl, hb⟩)
    have hz := hb.size
    (try simp only [World.size_alloc, World.size_setCell, World.size_drew] at hz)
    have hB' : Below w.heap.size w u2 := by
        refine kb ?_ hb
        go_grown
    clear hs_0 hs_1 hls hns0 hns1 hks1 hns2 hks2 hB hsz
    clear hb hz
    have hB := hB'; clear hB'
    have hsz := hB.size
    go_wp2
    go_ret
    exact ⟨rfl, by go_grown⟩
  by_cases h2 : 31 < a
  · have g2 : 31 < a := h2
    have hB : Below w.heap.size w w := Below.refl _ _
    go_enter Try.func5, Try.ntmps5
    go_wp2_with fail
    ((with_reducible refine (wnew_c _).mono ?_); rintro _ u1 ⟨wb, rfl, -, -, hb⟩)
    have hs_u1 := Lib.hid hb
    have T : CC u1 w.heap.size 0 1 (.int .i64 a) (.int .i64 b) := by
        refine ⟨?_, ?_⟩ <;> refine kc hb ?_ <;> (go_simp; first | done | rfl)
    have hz := hb.size
    (try simp only [World.size_alloc, World.size_setCell, World.size_drew] at hz)
    have L : w.heap.size < u1.heap.size := by omega
    have hB' : Below w.heap.size w u1 := by
        refine kb ?_ hb
        go_grown
    clear hb hz
    obtain ⟨hs_0, hs_1⟩ := T
    have hls := L; clear L
    obtain ⟨hns0, hns1, hks1, hns2, hks2⟩ := ap0 hls
    have hB := hB'; clear hB'
    have hsz := hB.size
    go_wp2_with fail
    ((with_reducible refine (awake12_c _).mono ?_); rintro _ u2 ⟨rfl, hb⟩)
    have hz := hb.size
    (try simp only [World.size_alloc, World.size_setCell, World.size_drew] at hz)
    have hB' : Below w.heap.size w u2 := by
        refine kb ?_ hb
        go_grown
    clear hs_0 hs_1 hls hns0 hns1 hks1 hns2 hks2 hB hsz
    clear hb hz
    have hB := hB'; clear hB'
    have hsz := hB.size
    go_wp2
    go_ret
    exact ⟨rfl, by go_grown⟩
  by_cases h3 : b < 0
  · have g3 : b < 0 := h3
    have hB : Below w.heap.size w w := Below.refl _ _
    go_enter Try.func5, Try.ntmps5
    go_wp2_with fail
    ((with_reducible refine (wnew_c _).mono ?_); rintro _ u1 ⟨wb, rfl, -, -, hb⟩)
    have hs_u1 := Lib.hid hb
    have T : CC u1 w.heap.size 0 1 (.int .i64 a) (.int .i64 b) := by
        refine ⟨?_, ?_⟩ <;> refine kc hb ?_ <;> (go_simp; first | done | rfl)
    have hz := hb.size
    (try simp only [World.size_alloc, World.size_setCell, World.size_drew] at hz)
    have L : w.heap.size < u1.heap.size := by omega
    have hB' : Below w.heap.size w u1 := by
        refine kb ?_ hb
        go_grown
    clear hb hz
    obtain ⟨hs_0, hs_1⟩ := T
    have hls := L; clear L
    obtain ⟨hns0, hns1, hks1, hns2, hks2⟩ := ap0 hls
    have hB := hB'; clear hB'
    have hsz := hB.size
    go_wp2_with fail
    ((with_reducible refine (awake12_c _).mono ?_); rintro _ u2 ⟨rfl, hb⟩)
    have hz := hb.size
    (try simp only [World.size_alloc, World.size_setCell, World.size_drew] at hz)
    have hB' : Below w.heap.size w u2 := by
        refine kb ?_ hb
        go_grown
    clear hs_0 hs_1 hls hns0 hns1 hks1 hns2 hks2 hB hsz
    clear hb hz
    have hB := hB'; clear hB'
    have hsz := hB.size
    go_wp2
    go_ret
    exact ⟨rfl, by go_grown⟩
  by_cases h4 : 31 < b
  · have g4 : 31 < b := h4
    have hB : Below w.heap.size w w := Below.refl _ _
    go_enter Try.func5, Try.ntmps5
    go_wp2_with fail
    ((with_reducible refine (wnew_c _).mono ?_); rintro _ u1 ⟨wb, rfl, -, -, hb⟩)
    have hs_u1 := Lib.hid hb
    have T : CC u1 w.heap.size 0 1 (.int .i64 a) (.int .i64 b) := by
        refine ⟨?_, ?_⟩ <;> refine kc hb ?_ <;> (go_simp; first | done | rfl)
    have hz := hb.size
    (try simp only [World.size_alloc, World.size_setCell, World.size_drew] at hz)
    have L : w.heap.size < u1.heap.size := by omega
    have hB' : Below w.heap.size w u1 := by
        refine kb ?_ hb
        go_grown
    clear hb hz
    obtain ⟨hs_0, hs_1⟩ := T
    have hls := L; clear L
    obtain ⟨hns0, hns1, hks1, hns2, hks2⟩ := ap0 hls
    have hB := hB'; clear hB'
    have hsz := hB.size
    go_wp2_with fail
    ((with_reducible refine (awake12_c _).mono ?_); rintro _ u2 ⟨rfl, hb⟩)
    have hz := hb.size
    (try simp only [World.size_alloc, World.size_setCell, World.size_drew] at hz)
    have hB' : Below w.heap.size w u2 := by
        refine kb ?_ hb
        go_grown
    clear hs_0 hs_1 hls hns0 hns1 hks1 hns2 hks2 hB hsz
    clear hb hz
    have hB := hB'; clear hB'
    have hsz := hB.size
    go_wp2
    go_ret
    exact ⟨rfl, by go_grown⟩
  have hB : Below w.heap.size w w := Below.refl _ _
  go_enter Try.func5, Try.ntmps5
  go_wp2_with fail
  ((with_reducible refine (wnew_c _).mono ?_); rintro _ u1 ⟨wb, rfl, hp, hwb, hb⟩)
  have hs_u1 := Lib.hid hb
  have T : CC u1 w.heap.size 0 1 (.int .i64 a) (.int .i64 b) := by
      refine ⟨?_, ?_⟩ <;> refine kc hb ?_ <;> (go_simp; first | done | rfl)
  have hz := hb.size
  (try simp only [World.size_alloc, World.size_setCell, World.size_drew] at hz)
  have L : w.heap.size < u1.heap.size := by omega
  have hB' : Below w.heap.size w u1 := by
      refine kb ?_ hb
      go_grown
  clear hb hz
  obtain ⟨hs_0, hs_1⟩ := T
  have hls := L; clear L
  obtain ⟨hns0, hns1, hks1, hns2, hks2⟩ := ap0 hls
  have hB := hB'; clear hB'
  have hsz := hB.size
  have HI : Hid (TurnI w wb w.heap.size a b wh0 u1) := Lib.hid (by
    (try simp only [World.size_alloc] at hwb)
    exact ⟨hp, wh0_may, hs_0, hs_1, hB, ⟨by omega, by omega⟩, by omega⟩)
  clear hp hwb hB hs_u1
  go_wp2_with fail
  clear hs_0 hs_1 hls
  go_loopg [6] n (fun kx s6 wr => ∃ k : Nat, s6 = .int .i64 k ∧ k ≤ n ∧ n - k ≤ kx ∧ Hid (∃ R, TurnI w wb w.heap.size a b R wr))
  case atStart => exact ⟨0, by simp, Nat.zero_le _, by omega, Lib.hid ⟨_, HI.out⟩⟩
  case round =>
    obtain ⟨k, rfl, hk, hkx, HR⟩ := hrel
    obtain ⟨R, hI⟩ := HR.out
    clear HI
    have HI := Lib.hid hI
    have HBw := Lib.hid hI.bel
    clear hI HR
    by_cases hlt : k < n
    · have hd : decide ((k : Int) < (n : Int)) = true := decide_eq_true (by omega)
      have hkl : k < l.length := by have := HLN.out; omega
      obtain ⟨g, o, cap, e1, _, hc⟩ := HV.out.some (by omega)
      rw [HLN.out] at e1
      obtain ⟨rfl, -, rfl⟩ := Value.slice.inj e1
      obtain ⟨y0, y1, y2⟩ := wc_at hc HBw.out hkl
      have hgd := HG.out l[k] (List.getElem_mem hkl)
      generalize l[k] = X at *
      obtain ⟨xr, xv, xt⟩ := X
      obtain ⟨-, hxv, hxt⟩ := hgd
      dsimp only at y0 y1 y2 hxt hxv
      have hgw : g < w.heap.size := by
        have := hc k _ (List.getElem?_eq_getElem hkl) 0 _ rfl
        exact klt this
      have hge := HI.out.ge
      have hgv : ¬ g = wb := by omega
      have hin : (0 : Int) ≤ (k : Int) ∧ (k : Int) < (n : Int) := by omega
      clear e1 hc hkl hge hgw
      have hgl := klt y0
      go_wp2_with fail
      have HMay := Lib.hid (wrS_may HI.out.mw xr xv xt hxv)
      have HQ := Lib.hid (fun W (hW : Below wr.heap.size wr W) => wwrite_c wb R HI.out.mw xr xv xt hxv W (HI.out.pw.below hW))
      unfold WrEnd at HQ
      obtain ⟨⟨RU, RE⟩, hRE⟩ : ∃ X, wrE xr xt = X := ⟨_, rfl⟩
      rw [hRE] at HQ
      dsimp only at HQ
      obtain ⟨R', hR'⟩ : ∃ R', wrS R xr xv xt = R' := ⟨_, rfl⟩
      rw [hR'] at HQ HMay
      refine wp_region_planXD 9 12 11 (fun bo W => OpN g (o + k * 3) xr xv xt W ∧ bif bo then (Pw wb R' W ∧ Fr (fun k => k = wb) wr W) else Below wr.heap.size wr W) (by decide) (by kernel_rfl) (by kernel_rfl) (by kernel_rfl) (by kernel_rfl) ?_ ?_
      · (try dsimp only)
        refine ⟨⟨y0, y1, y2⟩, ?_⟩
        (try simp only [cond_false]); exact Below.drew (Below.refl _ _)
      (try simp only [List.append_eq, List.cons_append, List.nil_append, List.toList_toArray, List.take_succ_cons, List.take_zero, List.drop_succ_cons, List.drop_zero])
      repeat (first
        | (refine PlanX.val (v := ?_) (by decide) ?_ ?_ ?_; rotate_left; (· rfl); (· (intro bo W hSw; obtain ⟨⟨bx0, bx1, bx2⟩, -⟩ := hSw; go_simp; all_goals (first | (with_reducible rfl) | (constructor <;> (with_reducible rfl))))); (try simp only [Act.put, List.setIfInBounds_toArray, List.set_cons_zero, List.set_cons_succ]))
        | (refine PlanX.turn (v := .tuple #[.int .i64 RU, .int .i64 RE]) (f := ?_) (args := ?_) (by decide) ?_ ?_ ?_ ?_; rotate_left 2; (· rfl); (· (intro W hSw; obtain ⟨⟨bx0, bx1, bx2⟩, -⟩ := hSw; go_simp; all_goals (first | (with_reducible rfl) | (constructor <;> (with_reducible rfl))))); (· (intro W hSw; exact (HQ.out W hSw.2).mono fun e w' ⟨h1, h2, h3⟩ => ⟨h1, ⟨h3.cell hSw.1.1 hgv, h3.cell hSw.1.2.1 hgv, h3.cell hSw.1.2.2 hgv⟩, h2, (Fr.ofBelow (F := fun k => k = wb) hSw.2).trans h3 (fun _ _ e => e)⟩)); (try simp only [Act.put, List.setIfInBounds_toArray, List.set_cons_zero, List.set_cons_succ])))
      refine PlanX.done ?_
      intro U TT
      have HU := Lib.hid TT.2
      clear TT y0 y1 y2 hgl HQ
      have HI4 := Lib.hid (HI.out.step HU.out.1 HMay.out HU.out.2)
      go_wp2
      go_roundg (n - (k + 1))
      case measure => omega
      case rel => exact ⟨k + 1, by go_num, by omega, by omega, Lib.hid ⟨_, HI4.out⟩⟩
    · have hd : decide ((k : Int) < (n : Int)) = false := decide_eq_false (by omega)
      go_wp2_with fail
      have hX := zF_self (n := R.x) (by have := HI.out.mw.x; rw [p53]; omega)
      have hY := zF_self (n := R.y) (by have := HI.out.mw.y; rw [p53]; omega)
      have hA := zF_self (small_ways R.q).1
      have hBq := zF_self (small_ways R.q).2
      have hc1 := wat_c wb R _ HI.out.pw
      obtain ⟨X, eX⟩ : ∃ X, zF R.x = X := ⟨_, rfl⟩
      obtain ⟨Y, eY⟩ : ∃ X, zF R.y = X := ⟨_, rfl⟩
      obtain ⟨A, eA⟩ : ∃ X, zF (waysX R.q) = X := ⟨_, rfl⟩
      obtain ⟨B, eB⟩ : ∃ X, zF (waysY R.q) = X := ⟨_, rfl⟩
      rw [eX] at hX
      rw [eY] at hY
      rw [eA] at hA
      rw [eB] at hBq
      have EX := Lib.hid eX
      have EY := Lib.hid eY
      have EA := Lib.hid eA
      have EB := Lib.hid eB
      unfold cV at hc1
      rw [eX, eY] at hc1
      refine hc1.mono ?_
      rintro _ v1 ⟨rfl, hb⟩
      clear hc1
      have HI1 := Lib.hid (HI.out.below hb)
      clear hb HI hd HV HG HLN HBw hlt hk hkx
      go_wp2_with fail
      have hc1 := wway_c wb R _ HI1.out.pw
      unfold cV at hc1
      rw [eA, eB] at hc1
      refine hc1.mono ?_
      rintro _ v2 ⟨rfl, hb⟩
      clear hc1 eX eY eA eB
      have HI2 := Lib.hid (HI1.out.below hb)
      clear hb HI1
      go_wp2_with fail
      refine (wclone_c wb R _ HI2.out.pw).mono ?_
      rintro _ v3 ⟨vb, rfl, hp, hvb, hb⟩
      have HJ := Lib.hid (HI2.out.made hb hp hvb)
      have HR := Lib.hid HI2.out.mw
      clear hb hp hvb HI2
      have e1 : IntKind.i64.wrap (4 * a) = 4 * a := IntWalk.i64_in _ (by omega)
      have e2 : IntKind.i64.wrap (4 * a + 1) = 4 * a + 1 := IntWalk.i64_in _ (by omega)
      have e3 : IntKind.u8.wrap (4 * a + 1) = 4 * a + 1 := IntWalk.u8_in _ (by omega)
      have e4 : IntKind.u8.wrap (4 * a) = 4 * a := IntWalk.u8_in _ (by omega)
      have e5 : IntKind.i64.wrap (4 * b) = 4 * b := IntWalk.i64_in _ (by omega)
      have e6 : IntKind.u8.wrap (4 * b) = 4 * b := IntWalk.u8_in _ (by omega)
      have e7 : IntKind.i64.wrap (a + b) = a + b := IntWalk.i64_in _ (by omega)
      have e8 : IntKind.i64.wrap (4 * (a + b)) = 4 * (a + b) := IntWalk.i64_in _ (by omega)
      have e9 : IntKind.u8.wrap (4 * (a + b)) = 4 * (a + b) := IntWalk.u8_in _ (by omega)
      go_wp2_with fail
      go_loopg [10] 4 (fun kx s10 wr => ∃ k : Nat, s10 = .int .i64 k ∧ k ≤ 4 ∧ 4 - k ≤ kx ∧ Hid (TurnJ w wb vb w.heap.size a b R (itW R (4 * a + 1) k) wr))
      case atStart => exact ⟨0, by simp, Nat.zero_le _, by omega, HJ⟩
      case round =>
        obtain ⟨k, rfl, hk, hkx, HJ2⟩ := hrel
        clear HJ
        have HJ := HJ2
        clear HJ2
        have s0 := HJ.out.i.c0
        have hls := klt s0
        by_cases hlt : k < 4
        · have hd : decide ((k : Int) < 4) = true := decide_eq_true (by omega)
          go_wp2_with fail
          have HM := Lib.hid (rollW_may HJ.out.mv (b := 4 * a + 1) (by omega))
          refine (wturn_c vb _ HJ.out.mv (4 * a + 1) (by omega) _ HJ.out.pv).mono ?_
          rintro _ u ⟨rfl, hp, hf⟩
          have HJ2 := Lib.hid (HJ.out.stepV hp HM.out hf)
          clear hp hf s0 hls HJ
          go_wp2
          go_roundg (4 - (k + 1))
          case measure => omega
          case rel => exact ⟨k + 1, by go_num, by omega, by omega, HJ2⟩
        · have hk4 : k = 4 := by omega
          subst hk4
          have hal := four_turns HR.out (t := a) (by omega)
          have HTS := Lib.hid (two_steps HR.out hal (t := a) (u := b) (by omega) (by omega))
          have HAl := Lib.hid hal
          clear hal
          generalize itW R (4 * a + 1) 4 = Q at *
          have hd : decide (((4 : Nat) : Int) < 4) = false := by decide
          have HAv : Hid (∀ W, Pw vb Q W → Calls Try.prog 18 #[.pointer (some ⟨vb, 0, none⟩)] W fun e w' => e = .returned (.complex .f64 X Y) ∧ Below W.heap.size W w') := Lib.hid (fun W h => by
            have := wat_c vb Q W h
            unfold cV at this
            rw [HAl.out.1, HAl.out.2.1, EX.out, EY.out] at this
            exact this)
          have HYv : Hid (∀ T W, T.q = R.q → ∀ cb, Pw cb T W → Calls Try.prog 19 #[.pointer (some ⟨cb, 0, none⟩)] W fun e w' => e = .returned (.complex .f64 A B) ∧ Below W.heap.size W w') := Lib.hid (fun T W hq cb h => by
            have := wway_c cb T W h
            unfold cV at this
            rw [hq, EA.out, EB.out] at this
            exact this)
          go_wp2_with fail
          refine (HAv.out _ HJ.out.pv).mono ?_
          rintro _ v4 ⟨rfl, hb⟩
          have HJ1 := Lib.hid (HJ.out.below hb)
          clear hb HJ s0 hls HAv
          go_wp2_with fail
          refine (HYv.out Q _ HAl.out.2.2 _ HJ1.out.pv).mono ?_
          rintro _ v5 ⟨rfl, hb⟩
          have HJ := Lib.hid (HJ1.out.below hb)
          have s0 := HJ.out.i.c0
          have s1 := HJ.out.i.c1
          have hls := klt s0
          clear hb HJ1
          go_wp2_with fail
          refine (wturn_c wb _ HR.out (4 * a) (by omega) _ HJ.out.i.pw).mono ?_
          rintro _ v6 ⟨rfl, hp, hf⟩
          have HM1 := Lib.hid (rollW_may HR.out (b := 4 * a) (by omega))
          have HJ1 := Lib.hid (HJ.out.stepW hp HM1.out hf)
          clear hp hf s0 s1 hls HJ
          have s0 := HJ1.out.i.c0
          have s1 := HJ1.out.i.c1
          have hls := klt s0
          go_wp2_with fail
          refine (wturn_c wb _ HM1.out (4 * b) (by omega) _ HJ1.out.i.pw).mono ?_
          rintro _ v7 ⟨rfl, hp, hf⟩
          have HM2 := Lib.hid (rollW_may HM1.out (b := 4 * b) (by omega))
          have HJ := Lib.hid (HJ1.out.stepW hp HM2.out hf)
          clear hp hf s0 s1 hls HJ1
          have s0 := HJ.out.i.c0
          have s1 := HJ.out.i.c1
          have hls := klt s0
          go_wp2_with fail
          refine (wturn_c vb _ HJ.out.mv (4 * (a + b)) (by omega) _ HJ.out.pv).mono ?_
          rintro _ v8 ⟨rfl, hp, hf⟩
          have HM3 := Lib.hid (rollW_may HJ.out.mv (b := 4 * (a + b)) (by omega))
          have HJ1 := Lib.hid (HJ.out.stepV hp HM3.out hf)
          clear hp hf s0 s1 hls HJ
          have hXs := zF_self (n := (rollW (rollW R (4 * a)) (4 * b)).x) (by have := HM2.out.x; rw [p53]; omega)
          have hYs := zF_self (n := (rollW (rollW R (4 * a)) (4 * b)).y) (by have := HM2.out.y; rw [p53]; omega)
          have HAv := Lib.hid (fun W (h : Pw vb (rollW Q (4 * (a + b))) W) => wat_c vb _ W h)
          have HAw := Lib.hid (fun W (h : Pw wb (rollW (rollW R (4 * a)) (4 * b)) W) => wat_c wb _ W h)
          rw [← HTS.out.1.1, ← HTS.out.1.2.1] at HAv
          unfold cV at HAv HAw
          have HQ2 := Lib.hid HTS.out.2
          clear HTS
          generalize rollW (rollW R (4 * a)) (4 * b) = S at *
          generalize rollW Q (4 * (a + b)) = T at *
          generalize zF S.x = XS at *
          generalize zF S.y = YS at *
          go_wp2_with fail
          refine (HAw.out _ HJ1.out.i.pw).mono ?_
          rintro _ v9 ⟨rfl, hb⟩
          have HJ := Lib.hid (HJ1.out.below hb)
          clear hb HJ1
          go_wp2_with fail
          refine (HAv.out _ HJ.out.pv).mono ?_
          rintro _ v10 ⟨rfl, hb⟩
          have HJ1 := Lib.hid (HJ.out.below hb)
          clear hb HJ
          go_wp2_with fail
          refine (HYv.out _ _ HQ2.out.1 _ HJ1.out.i.pw).mono ?_
          rintro _ v11 ⟨rfl, hb⟩
          have HJ := Lib.hid (HJ1.out.below hb)
          clear hb HJ1
          go_wp2_with fail
          refine (HYv.out _ _ HQ2.out.2 _ HJ.out.pv).mono ?_
          rintro _ v12 ⟨rfl, hb⟩
          have HJ1 := Lib.hid (HJ.out.below hb)
          clear hb HJ
          go_wp2_with fail
          refine (awake12_c _).mono ?_
          rintro _ v13 ⟨rfl, hb⟩
          have HB := Lib.hid (HJ1.out.i.bel.trans (hb.mono HJ1.out.i.bel.size))
          clear hb HJ1
          go_wp2
          go_ret
          exact ⟨rfl, HB.out⟩
end Go.Proofs.Ytkabpnchfhkhgaa
