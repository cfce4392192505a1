/-
  WheelRolls: its walk.
-/
import Derived.Test.YtkabpnchfhkhgaaRolls12
import Derived.Test.YtkabpnchfhkhgaaPlanXD
set_option linter.unusedSimpArgs false
set_option linter.unusedVariables false
namespace Go.Proofs.Ytkabpnchfhkhgaa
open Go.RowKit Go.PlainAid

/-- The cells of a call. -/
def OpW (g o : Nat) (a b c : Int) (W : World) : Prop := W.cell? ⟨g, o, none⟩ = some (.int .i64 a) ∧ W.cell? ⟨g, o + 1, none⟩ = some (.int .u8 b) ∧ W.cell? ⟨g, o + 2, none⟩ = some (.int .u8 c)
set_option maxRecDepth 100000 in
set_option maxHeartbeats 32000000 in
theorem rolls_walk (l : List Wc) (v : Value) (at0 : Int) (hi : -9223372036854775808 ≤ at0 ∧ at0 ≤ 9223372036854775807) (w : World) (hv : HoldsW wcE 3 w v l) (hg : ∀ x ∈ l, wcG x) (hl : l.length ≤ 9223372036854775807) (hlt : 0 < l.length → ∀ g, v.ownBlock = some g → g < w.heap.size) :
    Calls Try.prog 3 #[v, .int .i64 at0] w fun e w' => e = .returned (.bool true) ∧ Below w.heap.size w w' := by
  obtain ⟨pv, cv0, rfl⟩ := hv.form
  have HV := Lib.hid hv
  have HG := Lib.hid hg
  clear hv hg hl hlt hi
  generalize hln : l.length = n at *
  have HLN := Lib.hid hln
  clear hln
  by_cases hn : 200 < n
  · have hn' : (200 : Int) < (n : Int) := by omega
    go_enter Try.func3, Try.ntmps3
    go_wp2_with fail
    refine (wnew_c _).mono ?_
    rintro _ u ⟨wb, rfl, -, -, hb⟩
    have HB := Lib.hid hb
    clear hb
    go_wp2_with fail
    refine (awake12_c _).mono ?_
    rintro _ u2 ⟨rfl, hb⟩
    have HB2 := Lib.hid (kb HB.out hb)
    clear hb
    go_wp2
    go_ret
    exact ⟨rfl, HB2.out⟩
  · have hn' : ¬ (200 : Int) < (n : Int) := by omega
    go_enter Try.func3, Try.ntmps3
    go_wp2_with fail
    refine (wnew_c _).mono ?_
    rintro _ u ⟨wb, rfl, hp, hwb, hb⟩
    have HP := Lib.hid (And.intro hp (And.intro hwb hb))
    clear hp hwb hb
    go_wp2_with fail
    have HI := Lib.hid (show ∃ bk, bk = u.heap.size + 1 ∧ RollI w wb u.heap.size bk wh0 wh0 (.pointer none) ((u.alloc (.cells #[.int .i64 0, .int .i64 0, .int .i64 0, .int .u8 0] 28)).alloc (.cells #[.int .i64 0, .int .i64 0, .int .i64 0, .int .u8 0] 28)) from by
      obtain ⟨hp, hwb, hb⟩ := HP.out
      have hz := hb.size
      have hl := hp.lt
      have hBu := Below.refl u.heap.size u
      refine ⟨_, rfl, hp.below (by go_grown), ⟨by go_simp; first | done | rfl, by go_simp; first | done | rfl, by go_simp; first | done | rfl, by go_simp; first | done | rfl, fun i hi => by go_simp⟩, ⟨by go_simp; first | done | rfl, by go_simp; first | done | rfl, by go_simp; first | done | rfl, by go_simp; first | done | rfl, fun i hi => by go_simp⟩, wh0_may, wh0_may, hb.trans ((show Below u.heap.size u _ from by go_grown).mono hz), ⟨hwb, hz, by omega⟩, ⟨by omega, by omega, by omega⟩, .inl rfl⟩)
    generalize ((u.alloc (.cells #[.int .i64 0, .int .i64 0, .int .i64 0, .int .u8 0] 28)).alloc (.cells #[.int .i64 0, .int .i64 0, .int .i64 0, .int .u8 0] 28)) = U at *
    clear HP
    generalize hkb : u.heap.size + 1 = bk at *
    generalize u.heap.size = rb at *
    clear hkb
    go_loopg [8, 9] n (fun kx s8 s9 wr => ∃ k : Nat, s9 = .int .i64 k ∧ k ≤ n ∧ n - k ≤ kx ∧ ((s8 = .pointer none) ∨ ∃ cb, s8 = .pointer (some ⟨cb, 0, none⟩)) ∧ Hid (∃ R K, RollI w wb rb bk R K s8 wr))
    case atStart =>
      refine ⟨0, by simp, Nat.zero_le _, by omega, .inl rfl, Lib.hid ?_⟩
      obtain ⟨_, rfl, h⟩ := HI.out
      exact ⟨_, _, h⟩
    case round =>
      obtain ⟨k, rfl, hk, hkx, hcv, HR⟩ := hrel
      obtain ⟨R, K, hI⟩ := HR.out
      have HIr := Lib.hid hI
      have HBw := Lib.hid hI.bel
      clear hI HR
      by_cases hlt : k < n
      · have hd : decide ((k : Int) < (n : Int)) = true := decide_eq_true (by omega)
        have hkl : k < l.length := by have := HLN.out; omega
        obtain ⟨g, o, cap, e1, _, hc⟩ := HV.out.some (by omega)
        rw [HLN.out] at e1
        obtain ⟨rfl, -, rfl⟩ := Value.slice.inj e1
        obtain ⟨y0, y1, y2⟩ := wc_at hc HBw.out hkl
        have hgd := HG.out l[k] (List.getElem_mem hkl)
        generalize l[k] = X at *
        obtain ⟨xr, xv, xt⟩ := X
        obtain ⟨-, hxv, hxt⟩ := hgd
        dsimp only at y0 y1 y2 hxt hxv
        have hgw : g < w.heap.size := by
          have := hc k _ (List.getElem?_eq_getElem hkl) 0 _ rfl
          exact klt this
        have hge := HIr.out.ge
        have hgb : ¬ g = wb := by omega
        have hgr : ¬ g = rb := by omega
        have hgk : ¬ g = bk := by omega
        have hgk2 : ¬ bk = g := by omega
        have hin : (0 : Int) ≤ (k : Int) ∧ (k : Int) < (n : Int) := by omega
        clear e1 hc hkl hge
        by_cases hat : (k : Int) = at0
        · have hq : ((k : Int) == at0) = true := by simpa using hat
          have HC := Lib.hid (wclone_c wb R wr HIr.out.pw)
          have hgl := klt y0
          go_wp2_with fail
          refine (HC.out).mono ?_
          rintro _ u ⟨cb, rfl, hp, hcb, hb⟩
          have HM := Lib.hid (HIr.out.made hb hp hcb)
          have hu := HIr.out.below hb
          have k0 := hu.rh.c0
          have k1 := hu.rh.c1
          have k2 := hu.rh.c2
          have k3 := hu.rh.c3
          have h0 := hu.kh.c0
          have h1 := hu.kh.c1
          have h2 := hu.kh.c2
          have h3 := hu.kh.c3
          have f0 := hu.kh.f 0 (by omega)
          have f1 := hu.kh.f 1 (by omega)
          have f2 := hu.kh.f 2 (by omega)
          have f3 := hu.kh.f 3 (by omega)
          have hkl := klt h0
          have hrl := klt k0
          have hkr : ¬ bk = rb := fun e => hu.ne.2.2 e.symm
          have hrk : ¬ rb = bk := hu.ne.2.2
          have y0 := kc hb y0
          have y1 := kc hb y1
          have y2 := kc hb y2
          have hgu := klt y0
          have HSm := Lib.hid (fun W (h1 : Pw cb R W) (h2 : Pw wb R W) => wsame_c cb wb R R HIr.out.mR HIr.out.mR W h1 h2)
          rw [sameW_refl] at HSm
          have HPc := Lib.hid (show Pw cb R (put4 bk R u) from by
            rcases HM.out.cl with e | ⟨cb2, e, hp2, -⟩
            · cases e
            · injection e with e
              injection e with e
              injection e with e
              subst e
              exact hp2)
          clear hp hcb hb hu HIr HC hat HBw hcv
          unfold put4 at HM HPc
          go_wp2_with fail
          have z0 : ((((u.setCell ⟨bk, 0, none⟩ (.int .i64 R.x)).setCell ⟨bk, 1, none⟩ (.int .i64 R.y)).setCell ⟨bk, 2, none⟩ (.int .i64 R.q)).setCell ⟨bk, 3, none⟩ (.int .u8 R.b)).cell? ⟨g, o + k * 3, none⟩ = some (.int .i64 xr) := by go_simp; first | done | rfl
          have z1 : ((((u.setCell ⟨bk, 0, none⟩ (.int .i64 R.x)).setCell ⟨bk, 1, none⟩ (.int .i64 R.y)).setCell ⟨bk, 2, none⟩ (.int .i64 R.q)).setCell ⟨bk, 3, none⟩ (.int .u8 R.b)).cell? ⟨g, o + k * 3 + 1, none⟩ = some (.int .u8 xv) := by go_simp; first | done | rfl
          have z2 : ((((u.setCell ⟨bk, 0, none⟩ (.int .i64 R.x)).setCell ⟨bk, 1, none⟩ (.int .i64 R.y)).setCell ⟨bk, 2, none⟩ (.int .i64 R.q)).setCell ⟨bk, 3, none⟩ (.int .u8 R.b)).cell? ⟨g, o + k * 3 + 2, none⟩ = some (.int .u8 xt) := by go_simp; first | done | rfl
          clear y0 y1 y2 k0 k1 k2 k3 h0 h1 h2 h3 f0 f1 f2 f3
          refine (HSm.out _ HPc.out HM.out.pw).mono ?_
          rintro _ w0 ⟨rfl, hb⟩
          have HIr := Lib.hid (HM.out.below hb)
          have y0 := kc hb z0
          have y1 := kc hb z1
          have y2 := kc hb z2
          have hgl := klt y0
          clear z0 z1 z2 hb HM HSm HPc
          go_wp2_with fail
          have HMay := Lib.hid (wrS_may HIr.out.mR xr xv xt hxv)
          have HQ := Lib.hid (fun W (hW : Below w0.heap.size w0 W) => wwrite_c wb R HIr.out.mR xr xv xt hxv W (HIr.out.pw.below hW))
          unfold WrEnd at HQ
          obtain ⟨⟨RU, RE⟩, hRE⟩ : ∃ X, wrE xr xt = X := ⟨_, rfl⟩
          rw [hRE] at HQ
          dsimp only at HQ
          obtain ⟨R', hR'⟩ : ∃ R', wrS R xr xv xt = R' := ⟨_, rfl⟩
          rw [hR'] at HQ HMay
          refine wp_region_planXD 9 17 11 (fun bo W => OpW g (o + k * 3) xr xv xt W ∧ bif bo then (Pw wb R' W ∧ Fr (fun k => k = wb) w0 W) else Below w0.heap.size w0 W) (by decide) (by kernel_rfl) (by kernel_rfl) (by kernel_rfl) (by kernel_rfl) ?_ ?_
          · (try dsimp only)
            refine ⟨⟨y0, y1, y2⟩, ?_⟩
            (try simp only [cond_false]); exact Below.drew (Below.refl _ _)
          (try simp only [List.append_eq, List.cons_append, List.nil_append, List.toList_toArray, List.take_succ_cons, List.take_zero, List.drop_succ_cons, List.drop_zero])
          repeat (first
            | (refine PlanX.val (v := ?_) (by decide) ?_ ?_ ?_; rotate_left; (· rfl); (· (intro bo W hSw; obtain ⟨⟨bx0, bx1, bx2⟩, -⟩ := hSw; go_simp; all_goals (first | (with_reducible rfl) | (constructor <;> (with_reducible rfl))))); (try simp only [Act.put, List.setIfInBounds_toArray, List.set_cons_zero, List.set_cons_succ]))
            | (refine PlanX.turn (v := .tuple #[.int .i64 RU, .int .i64 RE]) (f := ?_) (args := ?_) (by decide) ?_ ?_ ?_ ?_; rotate_left 2; (· rfl); (· (intro W hSw; obtain ⟨⟨bx0, bx1, bx2⟩, -⟩ := hSw; go_simp; all_goals (first | (with_reducible rfl) | (constructor <;> (with_reducible rfl))))); (· (intro W hSw; exact (HQ.out W hSw.2).mono fun e w' ⟨h1, h2, h3⟩ => ⟨h1, ⟨h3.cell hSw.1.1 hgb, h3.cell hSw.1.2.1 hgb, h3.cell hSw.1.2.2 hgb⟩, h2, (Fr.ofBelow (F := fun k => k = wb) hSw.2).trans h3 (fun _ _ e => e)⟩)); (try simp only [Act.put, List.setIfInBounds_toArray, List.set_cons_zero, List.set_cons_succ])))
          refine PlanX.done ?_
          intro U T
          have HU := Lib.hid T.2
          obtain ⟨⟨a0, a1, a2⟩, -⟩ := T
          have hgl2 := klt a0
          clear y0 y1 y2 hgl HQ
          go_wp2_with fail
          refine (wread_c wb R' HMay.out xr _ HU.out.1).mono ?_
          rintro _ u3 ⟨rfl, hb⟩
          have HU3 := Lib.hid (And.intro (HU.out.1.below hb) (HU.out.2.trans (Fr.ofBelow (F := fun _ => False) hb) (fun _ _ f => f.elim)))
          have a0 := kc hb a0
          have a1 := kc hb a1
          have a2 := kc hb a2
          have hgl3 := klt a0
          obtain ⟨q1, q2, q3, q4, q5⟩ := ap0 hgl3
          have hB3 := Below.refl u3.heap.size u3
          clear hb HU hgl2
          have hcase : (¬ (0 ≤ xr ∧ xr ≤ 2)) ∨ ((0 ≤ xr ∧ xr ≤ 2) ∧ xt ≠ 0) ∨ ((1 ≤ xr ∧ xr ≤ 2) ∧ xt = 0) ∨ (xr = 0 ∧ xt = 0) := by omega
          unfold rdV
          rcases hcase with hc | ⟨hc, hc2⟩ | ⟨hc, rfl⟩ | ⟨rfl, rfl⟩
          · have e1 : RU = 0 ∧ RE = 10 := by unfold wrE at hRE; rw [if_pos hc] at hRE; cases hRE; exact ⟨rfl, rfl⟩
            have e2 : R = R' := by rw [← hR']; unfold wrS; rw [if_neg (by omega)]
            have e3 : rdW R' xr = 0 := by unfold rdW; rw [if_neg (by omega), if_neg (by omega), if_neg (by omega)]
            have e4 : rdE xr = 10 := by unfold rdE; rw [if_neg hc]
            obtain ⟨rfl, rfl⟩ := e1
            rw [e3, e4]
            clear e3 e4
            subst e2
            have hd1 : decide (xr < 0) = true ∨ (decide (xr < 0) = false ∧ decide (2 < xr) = true) := by simp; omega
            clear hc hRE hR'
            have HI4 := Lib.hid (HIr.out.step HU3.out.1 (HIr.out.rh.fr HU3.out.2 (fun e => HIr.out.ne.1 e.symm)) HIr.out.mR (HU3.out.2.mono (fun _ _ e => .inl e)))
            rcases hd1 with hd1 | ⟨hd1, hd2⟩
            all_goals
              go_wp2_with fail
              have HI5 := Lib.hid (HI4.out.below (show Below u3.heap.size u3 (u3.alloc (.cells #[.int .u8 0, .int .u8 0] 34)) from (Below.refl _ _).alloc (Nat.le_refl _) _))
              refine (same12_c wb rb R HI5.out.mR _ HI5.out.pw HI5.out.rh).mono ?_
              rintro _ u5 ⟨rfl, hb⟩
              have HI6 := Lib.hid (HI5.out.below hb)
              clear hb
              go_wp2
              go_roundg (n - (k + 1))
              case measure => omega
              case rel => exact ⟨k + 1, by go_num, by omega, by omega, .inr ⟨_, rfl⟩, Lib.hid ⟨_, _, HI6.out⟩⟩
          · have e1 : RU = 4 ∧ RE = 20 := by unfold wrE at hRE; rw [if_neg (by omega), if_pos hc2] at hRE; cases hRE; exact ⟨rfl, rfl⟩
            have e2 : R = R' := by rw [← hR']; unfold wrS; rw [if_neg (by omega)]
            obtain ⟨rfl, rfl⟩ := e1
            subst e2
            have d1 : decide (xr < 0) = false := by simp; omega
            have d2 : decide (2 < xr) = false := by simp; omega
            have d3 : (xt != 0) = true := by simpa using hc2
            generalize rdW R xr = D at *
            generalize rdE xr = DE at *
            clear hc hc2 hRE hR'
            have HI4 := Lib.hid (HIr.out.step HU3.out.1 (HIr.out.rh.fr HU3.out.2 (fun e => HIr.out.ne.1 e.symm)) HIr.out.mR (HU3.out.2.mono (fun _ _ e => .inl e)))
            go_wp2_with fail
            have HI5 := Lib.hid (HI4.out.below (show Below u3.heap.size u3 (u3.alloc (.cells #[.int .u8 D, .int .u8 0] 34)) from (Below.refl _ _).alloc (Nat.le_refl _) _))
            refine (same12_c wb rb R HI5.out.mR _ HI5.out.pw HI5.out.rh).mono ?_
            rintro _ u5 ⟨rfl, hb⟩
            have HI6 := Lib.hid (HI5.out.below hb)
            clear hb
            go_wp2
            go_roundg (n - (k + 1))
            case measure => omega
            case rel => exact ⟨k + 1, by go_num, by omega, by omega, .inr ⟨_, rfl⟩, Lib.hid ⟨_, _, HI6.out⟩⟩
          · have e1 : RU = 0 ∧ RE = 0 := by unfold wrE at hRE; rw [if_neg (by omega), if_neg (by omega)] at hRE; cases hRE; exact ⟨rfl, rfl⟩
            have e2 : R = R' := by rw [← hR']; unfold wrS; rw [if_neg (by omega)]
            obtain ⟨rfl, rfl⟩ := e1
            subst e2
            have d1 : decide (xr < 0) = false := by simp; omega
            have d2 : decide (2 < xr) = false := by simp; omega
            have d3 : (xr == 0) = false := by simp; omega
            generalize rdW R xr = D at *
            generalize rdE xr = DE at *
            clear hc hRE hR'
            have HI4 := Lib.hid (HIr.out.step HU3.out.1 (HIr.out.rh.fr HU3.out.2 (fun e => HIr.out.ne.1 e.symm)) HIr.out.mR (HU3.out.2.mono (fun _ _ e => .inl e)))
            go_wp2_with fail
            have HI5 := Lib.hid (HI4.out.below (show Below u3.heap.size u3 (u3.alloc (.cells #[.int .u8 D, .int .u8 0] 34)) from (Below.refl _ _).alloc (Nat.le_refl _) _))
            refine (same12_c wb rb R HI5.out.mR _ HI5.out.pw HI5.out.rh).mono ?_
            rintro _ u5 ⟨rfl, hb⟩
            have HI6 := Lib.hid (HI5.out.below hb)
            clear hb
            go_wp2
            go_roundg (n - (k + 1))
            case measure => omega
            case rel => exact ⟨k + 1, by go_num, by omega, by omega, .inr ⟨_, rfl⟩, Lib.hid ⟨_, _, HI6.out⟩⟩
          · have e1 : RU = 0 ∧ RE = 0 := by unfold wrE at hRE; rw [if_neg (by omega), if_neg (by omega)] at hRE; cases hRE; exact ⟨rfl, rfl⟩
            have e2 : rollW R xv = R' := by rw [← hR']; unfold wrS; rw [if_pos ⟨rfl, rfl⟩]
            obtain ⟨rfl, rfl⟩ := e1
            generalize rdW R' 0 = D at *
            generalize rdE 0 = DE at *
            clear hRE hR'
            subst e2
            have HRW := Lib.hid (fun W (hW : Below u3.heap.size u3 W) => rwrite_c rb R HIr.out.mR xv hxv W ((HIr.out.rh.fr HU3.out.2 (fun e => HIr.out.ne.1 e.symm)).below hW))
            go_wp2_with fail
            refine (HRW.out _ (by go_grown)).mono ?_
            rintro _ u4 ⟨rfl, hr4, hf4⟩
            have HI4 := Lib.hid (HIr.out.step ((HU3.out.1.below (show Below u3.heap.size u3 _ from by go_grown)).fr hf4 (fun e => HIr.out.ne.1 e)) hr4 HMay.out ((HU3.out.2.mono (fun _ _ e => .inl e)).trans (((Fr.ofBelow (F := fun k => k = wb ∨ k = rb) (show Below u3.heap.size u3 _ from by go_grown)).trans hf4 (fun _ _ e => .inr e))) (fun _ _ e => e)))
            clear hr4 hf4 HRW HU3 a0 a1 a2
            go_wp2_with fail
            refine (same12_c wb rb _ HMay.out _ HI4.out.pw HI4.out.rh).mono ?_
            rintro _ u5 ⟨rfl, hb⟩
            have HI5 := Lib.hid (HI4.out.below hb)
            clear hb
            go_wp2
            go_roundg (n - (k + 1))
            case measure => omega
            case rel => exact ⟨k + 1, by go_num, by omega, by omega, .inr ⟨_, rfl⟩, Lib.hid ⟨_, _, HI5.out⟩⟩
        · have hq : ((k : Int) == at0) = false := by simpa using hat
          clear hat HBw
          obtain ⟨w0, hw0⟩ : ∃ W, W = wr := ⟨_, rfl⟩
          rw [← hw0] at HIr y0 y1 y2 ⊢
          clear hw0
          have hgl := klt y0
          go_wp2_with fail
          have HMay := Lib.hid (wrS_may HIr.out.mR xr xv xt hxv)
          have HQ := Lib.hid (fun W (hW : Below w0.heap.size w0 W) => wwrite_c wb R HIr.out.mR xr xv xt hxv W (HIr.out.pw.below hW))
          unfold WrEnd at HQ
          obtain ⟨⟨RU, RE⟩, hRE⟩ : ∃ X, wrE xr xt = X := ⟨_, rfl⟩
          rw [hRE] at HQ
          dsimp only at HQ
          obtain ⟨R', hR'⟩ : ∃ R', wrS R xr xv xt = R' := ⟨_, rfl⟩
          rw [hR'] at HQ HMay
          refine wp_region_planXD 9 17 11 (fun bo W => OpW g (o + k * 3) xr xv xt W ∧ bif bo then (Pw wb R' W ∧ Fr (fun k => k = wb) w0 W) else Below w0.heap.size w0 W) (by decide) (by kernel_rfl) (by kernel_rfl) (by kernel_rfl) (by kernel_rfl) ?_ ?_
          · (try dsimp only)
            refine ⟨⟨y0, y1, y2⟩, ?_⟩
            (try simp only [cond_false]); exact Below.drew (Below.refl _ _)
          (try simp only [List.append_eq, List.cons_append, List.nil_append, List.toList_toArray, List.take_succ_cons, List.take_zero, List.drop_succ_cons, List.drop_zero])
          repeat (first
            | (refine PlanX.val (v := ?_) (by decide) ?_ ?_ ?_; rotate_left; (· rfl); (· (intro bo W hSw; obtain ⟨⟨bx0, bx1, bx2⟩, -⟩ := hSw; go_simp; all_goals (first | (with_reducible rfl) | (constructor <;> (with_reducible rfl))))); (try simp only [Act.put, List.setIfInBounds_toArray, List.set_cons_zero, List.set_cons_succ]))
            | (refine PlanX.turn (v := .tuple #[.int .i64 RU, .int .i64 RE]) (f := ?_) (args := ?_) (by decide) ?_ ?_ ?_ ?_; rotate_left 2; (· rfl); (· (intro W hSw; obtain ⟨⟨bx0, bx1, bx2⟩, -⟩ := hSw; go_simp; all_goals (first | (with_reducible rfl) | (constructor <;> (with_reducible rfl))))); (· (intro W hSw; exact (HQ.out W hSw.2).mono fun e w' ⟨h1, h2, h3⟩ => ⟨h1, ⟨h3.cell hSw.1.1 hgb, h3.cell hSw.1.2.1 hgb, h3.cell hSw.1.2.2 hgb⟩, h2, (Fr.ofBelow (F := fun k => k = wb) hSw.2).trans h3 (fun _ _ e => e)⟩)); (try simp only [Act.put, List.setIfInBounds_toArray, List.set_cons_zero, List.set_cons_succ])))
          refine PlanX.done ?_
          intro U T
          have HU := Lib.hid T.2
          obtain ⟨⟨a0, a1, a2⟩, -⟩ := T
          have hgl2 := klt a0
          clear y0 y1 y2 hgl HQ
          go_wp2_with fail
          refine (wread_c wb R' HMay.out xr _ HU.out.1).mono ?_
          rintro _ u3 ⟨rfl, hb⟩
          have HU3 := Lib.hid (And.intro (HU.out.1.below hb) (HU.out.2.trans (Fr.ofBelow (F := fun _ => False) hb) (fun _ _ f => f.elim)))
          have a0 := kc hb a0
          have a1 := kc hb a1
          have a2 := kc hb a2
          have hgl3 := klt a0
          obtain ⟨q1, q2, q3, q4, q5⟩ := ap0 hgl3
          have hB3 := Below.refl u3.heap.size u3
          clear hb HU hgl2
          have hcase : (¬ (0 ≤ xr ∧ xr ≤ 2)) ∨ ((0 ≤ xr ∧ xr ≤ 2) ∧ xt ≠ 0) ∨ ((1 ≤ xr ∧ xr ≤ 2) ∧ xt = 0) ∨ (xr = 0 ∧ xt = 0) := by omega
          unfold rdV
          rcases hcase with hc | ⟨hc, hc2⟩ | ⟨hc, rfl⟩ | ⟨rfl, rfl⟩
          · have e1 : RU = 0 ∧ RE = 10 := by unfold wrE at hRE; rw [if_pos hc] at hRE; cases hRE; exact ⟨rfl, rfl⟩
            have e2 : R = R' := by rw [← hR']; unfold wrS; rw [if_neg (by omega)]
            have e3 : rdW R' xr = 0 := by unfold rdW; rw [if_neg (by omega), if_neg (by omega), if_neg (by omega)]
            have e4 : rdE xr = 10 := by unfold rdE; rw [if_neg hc]
            obtain ⟨rfl, rfl⟩ := e1
            rw [e3, e4]
            clear e3 e4
            subst e2
            have hd1 : decide (xr < 0) = true ∨ (decide (xr < 0) = false ∧ decide (2 < xr) = true) := by simp; omega
            clear hc hRE hR'
            have HI4 := Lib.hid (HIr.out.step HU3.out.1 (HIr.out.rh.fr HU3.out.2 (fun e => HIr.out.ne.1 e.symm)) HIr.out.mR (HU3.out.2.mono (fun _ _ e => .inl e)))
            rcases hd1 with hd1 | ⟨hd1, hd2⟩
            all_goals
              go_wp2_with fail
              have HI5 := Lib.hid (HI4.out.below (show Below u3.heap.size u3 (u3.alloc (.cells #[.int .u8 0, .int .u8 0] 34)) from (Below.refl _ _).alloc (Nat.le_refl _) _))
              refine (same12_c wb rb R HI5.out.mR _ HI5.out.pw HI5.out.rh).mono ?_
              rintro _ u5 ⟨rfl, hb⟩
              have HI6 := Lib.hid (HI5.out.below hb)
              clear hb
              go_wp2
              go_roundg (n - (k + 1))
              case measure => omega
              case rel => exact ⟨k + 1, by go_num, by omega, by omega, hcv, Lib.hid ⟨_, _, HI6.out⟩⟩
          · have e1 : RU = 4 ∧ RE = 20 := by unfold wrE at hRE; rw [if_neg (by omega), if_pos hc2] at hRE; cases hRE; exact ⟨rfl, rfl⟩
            have e2 : R = R' := by rw [← hR']; unfold wrS; rw [if_neg (by omega)]
            obtain ⟨rfl, rfl⟩ := e1
            subst e2
            have d1 : decide (xr < 0) = false := by simp; omega
            have d2 : decide (2 < xr) = false := by simp; omega
            have d3 : (xt != 0) = true := by simpa using hc2
            generalize rdW R xr = D at *
            generalize rdE xr = DE at *
            clear hc hc2 hRE hR'
            have HI4 := Lib.hid (HIr.out.step HU3.out.1 (HIr.out.rh.fr HU3.out.2 (fun e => HIr.out.ne.1 e.symm)) HIr.out.mR (HU3.out.2.mono (fun _ _ e => .inl e)))
            go_wp2_with fail
            have HI5 := Lib.hid (HI4.out.below (show Below u3.heap.size u3 (u3.alloc (.cells #[.int .u8 D, .int .u8 0] 34)) from (Below.refl _ _).alloc (Nat.le_refl _) _))
            refine (same12_c wb rb R HI5.out.mR _ HI5.out.pw HI5.out.rh).mono ?_
            rintro _ u5 ⟨rfl, hb⟩
            have HI6 := Lib.hid (HI5.out.below hb)
            clear hb
            go_wp2
            go_roundg (n - (k + 1))
            case measure => omega
            case rel => exact ⟨k + 1, by go_num, by omega, by omega, hcv, Lib.hid ⟨_, _, HI6.out⟩⟩
          · have e1 : RU = 0 ∧ RE = 0 := by unfold wrE at hRE; rw [if_neg (by omega), if_neg (by omega)] at hRE; cases hRE; exact ⟨rfl, rfl⟩
            have e2 : R = R' := by rw [← hR']; unfold wrS; rw [if_neg (by omega)]
            obtain ⟨rfl, rfl⟩ := e1
            subst e2
            have d1 : decide (xr < 0) = false := by simp; omega
            have d2 : decide (2 < xr) = false := by simp; omega
            have d3 : (xr == 0) = false := by simp; omega
            generalize rdW R xr = D at *
            generalize rdE xr = DE at *
            clear hc hRE hR'
            have HI4 := Lib.hid (HIr.out.step HU3.out.1 (HIr.out.rh.fr HU3.out.2 (fun e => HIr.out.ne.1 e.symm)) HIr.out.mR (HU3.out.2.mono (fun _ _ e => .inl e)))
            go_wp2_with fail
            have HI5 := Lib.hid (HI4.out.below (show Below u3.heap.size u3 (u3.alloc (.cells #[.int .u8 D, .int .u8 0] 34)) from (Below.refl _ _).alloc (Nat.le_refl _) _))
            refine (same12_c wb rb R HI5.out.mR _ HI5.out.pw HI5.out.rh).mono ?_
            rintro _ u5 ⟨rfl, hb⟩
            have HI6 := Lib.hid (HI5.out.below hb)
            clear hb
            go_wp2
            go_roundg (n - (k + 1))
            case measure => omega
            case rel => exact ⟨k + 1, by go_num, by omega, by omega, hcv, Lib.hid ⟨_, _, HI6.out⟩⟩
          · have e1 : RU = 0 ∧ RE = 0 := by unfold wrE at hRE; rw [if_neg (by omega), if_neg (by omega)] at hRE; cases hRE; exact ⟨rfl, rfl⟩
            have e2 : rollW R xv = R' := by rw [← hR']; unfold wrS; rw [if_pos ⟨rfl, rfl⟩]
            obtain ⟨rfl, rfl⟩ := e1
            generalize rdW R' 0 = D at *
            generalize rdE 0 = DE at *
            clear hRE hR'
            subst e2
            have HRW := Lib.hid (fun W (hW : Below u3.heap.size u3 W) => rwrite_c rb R HIr.out.mR xv hxv W ((HIr.out.rh.fr HU3.out.2 (fun e => HIr.out.ne.1 e.symm)).below hW))
            go_wp2_with fail
            refine (HRW.out _ (by go_grown)).mono ?_
            rintro _ u4 ⟨rfl, hr4, hf4⟩
            have HI4 := Lib.hid (HIr.out.step ((HU3.out.1.below (show Below u3.heap.size u3 _ from by go_grown)).fr hf4 (fun e => HIr.out.ne.1 e)) hr4 HMay.out ((HU3.out.2.mono (fun _ _ e => .inl e)).trans (((Fr.ofBelow (F := fun k => k = wb ∨ k = rb) (show Below u3.heap.size u3 _ from by go_grown)).trans hf4 (fun _ _ e => .inr e))) (fun _ _ e => e)))
            clear hr4 hf4 HRW HU3 a0 a1 a2
            go_wp2_with fail
            refine (same12_c wb rb _ HMay.out _ HI4.out.pw HI4.out.rh).mono ?_
            rintro _ u5 ⟨rfl, hb⟩
            have HI5 := Lib.hid (HI4.out.below hb)
            clear hb
            go_wp2
            go_roundg (n - (k + 1))
            case measure => omega
            case rel => exact ⟨k + 1, by go_num, by omega, by omega, hcv, Lib.hid ⟨_, _, HI5.out⟩⟩
      · have hd : decide ((k : Int) < (n : Int)) = false := decide_eq_false (by omega)
        rcases hcv with rfl | ⟨cb, rfl⟩
        · go_wp2_with fail
          have hB := Below.refl wr.heap.size wr
          have q0 := HIr.out.kh.c0
          have q1 := HIr.out.kh.c1
          have q2 := HIr.out.kh.c2
          have q3 := HIr.out.kh.c3
          have hq_0 := q0
          have hq_1 := q1
          have hq_2 := q2
          have hq_3 := q3
          have hl1 := klt q0
          refine wp_region_plan (fun w' => w'.cell? ⟨bk, 0, none⟩ = some (.int .i64 K.x) ∧ w'.cell? ⟨bk, 1, none⟩ = some (.int .i64 K.y) ∧ w'.cell? ⟨bk, 2, none⟩ = some (.int .i64 K.q) ∧ w'.cell? ⟨bk, 3, none⟩ = some (.int .u8 K.b) ∧ Below wr.heap.size wr w') (by kernel_rfl) (by kernel_rfl) (by kernel_rfl) ?_ ?_
          · (try dsimp only)
            refine ⟨?_, ?_, ?_, ?_, ?_⟩ <;> first | (go_simp; done) | (simp [*]; done) | go_grown
          repeat (first
            | (refine Plan.val (v := ?_) ?_ ?_ ?_; rotate_left; (· rfl); (· (intro W hSw; (try dsimp only at hSw); go_simp; all_goals (first | (with_reducible rfl) | (constructor <;> (with_reducible rfl)) | (rw [if_neg (by omega)]; done) | (rw [if_neg (by omega)]; with_reducible rfl)))); (try simp only [Act.put, List.setIfInBounds_toArray, List.set_cons_zero, List.set_cons_succ]))
            | (refine Plan.no ?_ ?_; (· rfl); (try simp only [Act.put, List.setIfInBounds_toArray, List.set_cons_zero, List.set_cons_succ]))
            | (refine Plan.call (v := ?_) (f := ?_) (args := ?_) ?_ ?_ ?_ ?_; rotate_left 3; (· rfl); (· (intro W hSw; (try dsimp only at hSw); go_simp; all_goals (first | (with_reducible rfl) | (constructor <;> (with_reducible rfl)) | (rw [if_neg (by omega)]; done) | (rw [if_neg (by omega)]; with_reducible rfl)))); (· (intro W hSw; (try dsimp only at hSw); first | (go_at_call 8; ((with_reducible refine (awake12_c _).mono ?_); rintro _ wz ⟨rfl, hb⟩; (refine ⟨?_, ?_⟩; (· with_reducible rfl); exact ⟨kc hb hSw.1, kc hb hSw.2.1, kc hb hSw.2.2.1, kc hb hSw.2.2.2.1, kb hSw.2.2.2.2 hb⟩))))); (try simp only [Act.put, List.setIfInBounds_toArray, List.set_cons_zero, List.set_cons_succ])))
          refine Plan.done ?_
          intro wz T
          (try dsimp only at T)
          have hBe := T.2.2.2.2
          go_wp2
          go_ret
          exact ⟨rfl, HBw.out.trans ((show Below wr.heap.size wr _ from by go_grown).mono HBw.out.size)⟩
        · have HPc : Hid (Pw cb K wr) := Lib.hid (by
            rcases HIr.out.cl with e | ⟨cb2, e, hp2, -⟩
            · cases e
            · injection e with e
              injection e with e
              injection e with e
              subst e
              exact hp2)
          have HSm := Lib.hid (fun W (hW : Below wr.heap.size wr W) => wsame_c cb wb K R HIr.out.mK HIr.out.mR W (HPc.out.below hW) (HIr.out.pw.below hW))
          have HSa := Lib.hid (fun W (hW : Below wr.heap.size wr W) => same12_c cb bk K HIr.out.mK W (HPc.out.below hW) (HIr.out.kh.below hW))
          have q0 := HIr.out.kh.c0
          have q1 := HIr.out.kh.c1
          have q2 := HIr.out.kh.c2
          have q3 := HIr.out.kh.c3
          have r0 := HIr.out.rh.c0
          have r1 := HIr.out.rh.c1
          have r2 := HIr.out.rh.c2
          have r3 := HIr.out.rh.c3
          unfold sameW at HSm
          have e1 : (K.x == R.x) = decide (K.x = R.x) := rfl
          have e2 : (K.y == R.y) = decide (K.y = R.y) := rfl
          have e3 : (K.q == R.q) = decide (K.q = R.q) := rfl
          have e4 : (K.b == R.b) = decide (K.b = R.b) := rfl
          clear HPc
          generalize decide (K.x = R.x) = D1 at *
          generalize decide (K.y = R.y) = D2 at *
          generalize decide (K.q = R.q) = D3 at *
          generalize decide (K.b = R.b) = D4 at *
          have hcase : D1 = false ∨ (D1 = true ∧ D2 = false) ∨ (D1 = true ∧ D2 = true ∧ D3 = false) ∨ (D1 = true ∧ D2 = true ∧ D3 = true ∧ D4 = false) ∨ (D1 = true ∧ D2 = true ∧ D3 = true ∧ D4 = true) := by
            cases D1 <;> cases D2 <;> cases D3 <;> cases D4 <;> simp
          rcases hcase with rfl | ⟨rfl, rfl⟩ | ⟨rfl, rfl, rfl⟩ | ⟨rfl, rfl, rfl, rfl⟩ | ⟨rfl, rfl, rfl, rfl⟩
          all_goals
            (try simp only [Bool.false_and, Bool.true_and, Bool.and_false, Bool.and_true] at HSm)
            go_wp2_with fail
            have hB := Below.refl wr.heap.size wr
            have hq_0 := q0
            have hq_1 := q1
            have hq_2 := q2
            have hq_3 := q3
            have hr_0 := r0
            have hr_1 := r1
            have hr_2 := r2
            have hr_3 := r3
            have hl1 := klt q0
            have hl2 := klt r0
            refine wp_region_plan (fun w' => w'.cell? ⟨bk, 0, none⟩ = some (.int .i64 K.x) ∧ w'.cell? ⟨bk, 1, none⟩ = some (.int .i64 K.y) ∧ w'.cell? ⟨bk, 2, none⟩ = some (.int .i64 K.q) ∧ w'.cell? ⟨bk, 3, none⟩ = some (.int .u8 K.b) ∧ w'.cell? ⟨rb, 0, none⟩ = some (.int .i64 R.x) ∧ w'.cell? ⟨rb, 1, none⟩ = some (.int .i64 R.y) ∧ w'.cell? ⟨rb, 2, none⟩ = some (.int .i64 R.q) ∧ w'.cell? ⟨rb, 3, none⟩ = some (.int .u8 R.b) ∧ Below wr.heap.size wr w') (by kernel_rfl) (by kernel_rfl) (by kernel_rfl) ?_ ?_
            · (try dsimp only)
              refine ⟨?_, ?_, ?_, ?_, ?_, ?_, ?_, ?_, ?_⟩ <;> first | (go_simp; done) | (simp [*]; done) | go_grown
            repeat (first
              | (refine Plan.val (v := ?_) ?_ ?_ ?_; rotate_left; (· rfl); (· (intro W hSw; (try dsimp only at hSw); go_simp; all_goals (first | (with_reducible rfl) | (constructor <;> (with_reducible rfl)) | (rw [if_neg (by omega)]; done) | (rw [if_neg (by omega)]; with_reducible rfl)))); (try simp only [Act.put, List.setIfInBounds_toArray, List.set_cons_zero, List.set_cons_succ]))
              | (refine Plan.no ?_ ?_; (· rfl); (try simp only [Act.put, List.setIfInBounds_toArray, List.set_cons_zero, List.set_cons_succ]))
              | (refine Plan.call (v := ?_) (f := ?_) (args := ?_) ?_ ?_ ?_ ?_; rotate_left 3; (· rfl); (· (intro W hSw; (try dsimp only at hSw); go_simp; all_goals (first | (with_reducible rfl) | (constructor <;> (with_reducible rfl)) | (rw [if_neg (by omega)]; done) | (rw [if_neg (by omega)]; with_reducible rfl)))); (· (intro W hSw; (try dsimp only at hSw); first | (go_at_call 14; ((with_reducible refine (HSa.out _ hSw.2.2.2.2.2.2.2.2).mono ?_); rintro _ wz ⟨rfl, hb⟩; (refine ⟨?_, ?_⟩; (· with_reducible rfl); exact ⟨kc hb hSw.1, kc hb hSw.2.1, kc hb hSw.2.2.1, kc hb hSw.2.2.2.1, kc hb hSw.2.2.2.2.1, kc hb hSw.2.2.2.2.2.1, kc hb hSw.2.2.2.2.2.2.1, kc hb hSw.2.2.2.2.2.2.2.1, kb hSw.2.2.2.2.2.2.2.2 hb⟩))) | (go_at_call 10; ((with_reducible refine (HSm.out _ hSw.2.2.2.2.2.2.2.2).mono ?_); rintro _ wz ⟨rfl, hb⟩; (refine ⟨?_, ?_⟩; (· with_reducible rfl); exact ⟨kc hb hSw.1, kc hb hSw.2.1, kc hb hSw.2.2.1, kc hb hSw.2.2.2.1, kc hb hSw.2.2.2.2.1, kc hb hSw.2.2.2.2.2.1, kc hb hSw.2.2.2.2.2.2.1, kc hb hSw.2.2.2.2.2.2.2.1, kb hSw.2.2.2.2.2.2.2.2 hb⟩))) | (go_at_call 8; ((with_reducible refine (awake12_c _).mono ?_); rintro _ wz ⟨rfl, hb⟩; (refine ⟨?_, ?_⟩; (· with_reducible rfl); exact ⟨kc hb hSw.1, kc hb hSw.2.1, kc hb hSw.2.2.1, kc hb hSw.2.2.2.1, kc hb hSw.2.2.2.2.1, kc hb hSw.2.2.2.2.2.1, kc hb hSw.2.2.2.2.2.2.1, kc hb hSw.2.2.2.2.2.2.2.1, kb hSw.2.2.2.2.2.2.2.2 hb⟩))))); (try simp only [Act.put, List.setIfInBounds_toArray, List.set_cons_zero, List.set_cons_succ])))
            refine Plan.done ?_
            intro wz T
            (try dsimp only at T)
            have hBe := T.2.2.2.2.2.2.2.2
            go_wp2
            go_ret
            exact ⟨rfl, HBw.out.trans ((show Below wr.heap.size wr _ from by go_grown).mono HBw.out.size)⟩
end Go.Proofs.Ytkabpnchfhkhgaa
