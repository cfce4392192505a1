/-
  PortsLow: its walk.
-/
import Derived.Test.YtbahjcnamalhcaaLowPure11
import Derived.Test.YtbahjcnamalhcaaPlayWalk11
set_option linter.unusedSimpArgs false
set_option linter.unusedVariables false
namespace Go.Proofs.Ytbahjcnamalhcaa
open Go.RowKit Go.PlainAid

set_option maxRecDepth 100000 in
set_option maxHeartbeats 16000000 in
theorem low_walk (v1 v2 : Value) (lp ls : List Int) (u1 u2 : Value) (lq lr : List Int) (l : List Cl) (v : Value) (w : World) (hv1 : InB w v1 lp) (hv2 : InB w v2 ls) (hu1 : InB w u1 lq) (hu2 : InB w u2 lr) (hv : HoldsW clE 5 w v l) (hg : ∀ x ∈ l, clG x) (hl : l.length ≤ 9223372036854775807) (hlt : 0 < l.length → ∀ g, v.ownBlock = some g → g < w.heap.size) :
    Calls Try.prog 5 #[.agg #[v1, v2], .agg #[u1, u2], v] w fun e w' => e = .returned (.bool true) ∧ Below w.heap.size w w' := by
  obtain ⟨pv, cv, rfl⟩ := hv.form
  obtain ⟨p1, c1, rfl⟩ := hv1.1.form
  obtain ⟨p2, c2, rfl⟩ := hv2.1.form
  obtain ⟨p3, c3, rfl⟩ := hu1.1.form
  obtain ⟨p4, c4, rfl⟩ := hu2.1.form
  have HV := Lib.hid hv
  have HG := Lib.hid hg
  have HQ := Lib.hid hu1
  have HSB := Lib.hid (And.intro hv2.2.1 hu2.2.1)
  have HF1 := Lib.hid (fun W => few11_c lp.length ls.length l.length p1 p2 pv c1 c2 cv W)
  have HF2 := Lib.hid (fun W => few11_c lq.length lr.length l.length p3 p4 pv c3 c4 cv W)
  have HFA1 := Lib.hid (fun h => few_parts (p := lp.length) (s := ls.length) (n := l.length) h)
  have HFA2 := Lib.hid (fun h => few_parts (p := lq.length) (s := lr.length) (n := l.length) h)
  have HN1 := Lib.hid (fun W (hW : Below w.heap.size w W) (h1 : lp.length ≤ 65536) (h2 : ls.length ≤ 65536) => newp_c lp ls h1 h2 _ _ W (hv1.1.below hW) (hv2.1.below hW))
  have HN2 := Lib.hid (fun W (hW : Below w.heap.size w W) (h1 : lp.length ≤ 65536) (h2 : lr.length ≤ 65536) => newp_c lp lr h1 h2 _ _ W (hv1.1.below hW) (hu2.1.below hW))
  clear hv1 hv2 hu1 hu2 hv hg hl hlt
  generalize hlp : lp.length = n1 at *
  generalize hls : ls.length = n2 at *
  generalize hlq : lq.length = m1 at *
  generalize hlr : lr.length = m2 at *
  generalize hln : l.length = n at *
  have HLN := Lib.hid (And.intro hlp (And.intro hls (And.intro hlq (And.intro hlr hln))))
  clear hlp hls hlq hlr hln
  cases hF : fewB n1 n2 n
  · rw [hF] at HF1
    clear HFA1 HFA2 hF
    go_enter Try.func5, Try.ntmps5
    go_wp2_with fail
    ((with_reducible refine (HF1.out _).mono ?_); rintro _ w1 ⟨rfl, hb⟩)
    have hz := hb.size
    (try simp only [World.size_alloc, World.size_setCell, World.size_drew] at hz)
    have hB' : Below w.heap.size w w1 := by
        refine kb ?_ hb
        go_grown
    clear hb hz
    have hB := hB'; clear hB'
    have hsz := hB.size
    go_wp2_with fail
    ((with_reducible refine (awake11_c _).mono ?_); rintro _ w2 ⟨rfl, hb⟩)
    have hz := hb.size
    (try simp only [World.size_alloc, World.size_setCell, World.size_drew] at hz)
    have hB' : Below w.heap.size w w2 := by
        refine kb ?_ hb
        go_grown
    clear hB hsz
    clear hb hz
    have hB := hB'; clear hB'
    have hsz := hB.size
    go_wp2
    go_ret
    exact ⟨rfl, by go_grown⟩
  rw [hF] at HF1
  obtain ⟨hn1, hn2, hn⟩ := HFA1.out hF
  clear HFA1 hF
  cases hF : fewB m1 m2 n
  · rw [hF] at HF2
    clear HFA2 hF
    go_enter Try.func5, Try.ntmps5
    go_wp2_with fail
    ((with_reducible refine (HF1.out _).mono ?_); rintro _ w1 ⟨rfl, hb⟩)
    have T : CC w1 (w.heap.size + 1) 0 1 (.slice p3 m1 c3) (.slice p4 m2 c4) := by
        refine ⟨?_, ?_⟩ <;> refine kc hb ?_ <;> (go_simp; first | done | rfl)
    have hz := hb.size
    (try simp only [World.size_alloc, World.size_setCell, World.size_drew] at hz)
    have L : w.heap.size + 1 < w1.heap.size := by omega
    have hB' : Below w.heap.size w w1 := by
        refine kb ?_ hb
        go_grown
    clear hb hz
    obtain ⟨hy_0, hy_1⟩ := T
    have hly := L; clear L
    obtain ⟨hny0, hny1, hky1, hny2, hky2⟩ := ap1f hly
    have hB := hB'; clear hB'
    have hsz := hB.size
    go_wp2_with fail
    ((with_reducible refine (HF2.out _).mono ?_); rintro _ w2 ⟨rfl, hb⟩)
    have hz := hb.size
    (try simp only [World.size_alloc, World.size_setCell, World.size_drew] at hz)
    have hB' : Below w.heap.size w w2 := by
        refine kb ?_ hb
        go_grown
    clear hy_0 hy_1 hly hny0 hny1 hky1 hny2 hky2 hB hsz
    clear hb hz
    have hB := hB'; clear hB'
    have hsz := hB.size
    go_wp2_with fail
    ((with_reducible refine (awake11_c _).mono ?_); rintro _ w3 ⟨rfl, hb⟩)
    have hz := hb.size
    (try simp only [World.size_alloc, World.size_setCell, World.size_drew] at hz)
    have hB' : Below w.heap.size w w3 := by
        refine kb ?_ hb
        go_grown
    clear hB hsz
    clear hb hz
    have hB := hB'; clear hB'
    have hsz := hB.size
    go_wp2
    go_ret
    exact ⟨rfl, by go_grown⟩
  rw [hF] at HF2
  obtain ⟨hm1, hm2, -⟩ := HFA2.out hF
  clear HFA2 hF
  by_cases hnm : n2 = m2
  case neg =>
    have hne : ((n2 : Int) != (m2 : Int)) = true := by simp; omega
    clear hnm
    go_enter Try.func5, Try.ntmps5
    go_wp2_with fail
    ((with_reducible refine (HF1.out _).mono ?_); rintro _ w1 ⟨rfl, hb⟩)
    have T : CC w1 w.heap.size 0 1 (.slice p1 n1 c1) (.slice p2 n2 c2) ∧ CC w1 (w.heap.size + 1) 0 1 (.slice p3 m1 c3) (.slice p4 m2 c4) := by
        refine ⟨⟨?_, ?_⟩, ⟨?_, ?_⟩⟩ <;> refine kc hb ?_ <;> (go_simp; first | done | rfl)
    have hz := hb.size
    (try simp only [World.size_alloc, World.size_setCell, World.size_drew] at hz)
    have L : w.heap.size < w1.heap.size ∧ w.heap.size + 1 < w1.heap.size := by omega
    have hB' : Below w.heap.size w w1 := by
        refine kb ?_ hb
        go_grown
    clear hb hz
    obtain ⟨⟨hx_0, hx_1⟩, ⟨hy_0, hy_1⟩⟩ := T
    obtain ⟨hlx, hly⟩ := L
    obtain ⟨hnx0, hnx1, hkx1, hnx2, hkx2⟩ := ap0 hlx
    obtain ⟨hny0, hky1⟩ := ap1 hly
    have hB := hB'; clear hB'
    have hsz := hB.size
    go_wp2_with fail
    ((with_reducible refine (HF2.out _).mono ?_); rintro _ w2 ⟨rfl, hb⟩)
    have T : CC w2 w.heap.size 0 1 (.slice p1 n1 c1) (.slice p2 n2 c2) ∧ CC w2 (w.heap.size + 1) 0 1 (.slice p3 m1 c3) (.slice p4 m2 c4) := by
        refine ⟨⟨?_, ?_⟩, ⟨?_, ?_⟩⟩ <;> refine kc hb ?_ <;> (go_simp; first | done | rfl)
    have hz := hb.size
    (try simp only [World.size_alloc, World.size_setCell, World.size_drew] at hz)
    have L : w.heap.size < w2.heap.size ∧ w.heap.size + 1 < w2.heap.size := by omega
    have hB' : Below w.heap.size w w2 := by
        refine kb ?_ hb
        go_grown
    clear hx_0 hx_1 hy_0 hy_1 hlx hly hnx0 hnx1 hkx1 hnx2 hkx2 hny0 hky1 hB hsz
    clear hb hz
    obtain ⟨⟨hx_0, hx_1⟩, ⟨hy_0, hy_1⟩⟩ := T
    obtain ⟨hlx, hly⟩ := L
    obtain ⟨hnx0, hnx1, hkx1, hnx2, hkx2⟩ := ap0 hlx
    obtain ⟨hny0, hky1⟩ := ap1 hly
    have hB := hB'; clear hB'
    have hsz := hB.size
    go_wp2_with fail
    ((with_reducible refine (awake11_c _).mono ?_); rintro _ w3 ⟨rfl, hb⟩)
    have hz := hb.size
    (try simp only [World.size_alloc, World.size_setCell, World.size_drew] at hz)
    have hB' : Below w.heap.size w w3 := by
        refine kb ?_ hb
        go_grown
    clear hx_0 hx_1 hy_0 hy_1 hlx hly hnx0 hnx1 hkx1 hnx2 hkx2 hny0 hky1 hB hsz
    clear hb hz
    have hB := hB'; clear hB'
    have hsz := hB.size
    go_wp2
    go_ret
    exact ⟨rfl, by go_grown⟩
  subst hnm
  go_enter Try.func5, Try.ntmps5
  go_wp2_with fail
  obtain ⟨W0, hW0⟩ : ∃ W, W = (w.alloc (.cells #[.slice p1 n1 c1, .slice p2 n2 c2] 24)).alloc (.cells #[.slice p3 m1 c3, .slice p4 n2 c4] 24) := ⟨_, rfl⟩
  have b0 : W0.cell? ⟨w.heap.size, 0, none⟩ = some (.slice p1 n1 c1) := by rw [hW0]; go_simp; first | done | rfl
  have b1 : W0.cell? ⟨w.heap.size, 1, none⟩ = some (.slice p2 n2 c2) := by rw [hW0]; go_simp; first | done | rfl
  have d0 : W0.cell? ⟨w.heap.size + 1, 0, none⟩ = some (.slice p3 m1 c3) := by rw [hW0]; go_simp; first | done | rfl
  have d1 : W0.cell? ⟨w.heap.size + 1, 1, none⟩ = some (.slice p4 n2 c4) := by rw [hW0]; go_simp; first | done | rfl
  have hWs : W0.heap.size = w.heap.size + 1 + 1 := by rw [hW0]; simp
  have HW0 := Lib.hid (show Below w.heap.size w W0 from by rw [hW0]; exact ((Below.refl _ _).alloc (Nat.le_refl _) _).alloc (by simp) _)
  rw [← hW0]
  clear hW0
  refine (HF1.out _).mono ?_
  rintro _ w1 ⟨rfl, hb⟩
  have HB1 := Lib.hid hb
  have x0 := kc hb b0
  have x1 := kc hb b1
  have y0 := kc hb d0
  have y1 := kc hb d1
  have hxl := klt x0
  have hyl := klt y0
  clear hb
  go_wp2_with fail
  refine (HF2.out _).mono ?_
  rintro _ w2 ⟨rfl, hb⟩
  have HB2 := Lib.hid (kb HB1.out hb)
  have x0 := kc hb x0
  have x1 := kc hb x1
  have y0 := kc hb y0
  have y1 := kc hb y1
  have hxl := klt x0
  have hyl := klt y0
  clear hb HB1
  go_wp2_with fail
  refine (HN1.out _ (kb HW0.out HB2.out) (by omega) (by omega)).mono ?_
  rintro _ w3 ⟨pb, F, G, rfl, hP, hG, hpb, hb⟩
  unfold okV
  have HB3 := Lib.hid (kb HB2.out hb)
  have HP := Lib.hid (And.intro hP hG)
  have hz1 := HB2.out.size
  have x0 := kc hb x0
  have x1 := kc hb x1
  have y0 := kc hb y0
  have y1 := kc hb y1
  have hxl := klt x0
  have hyl := klt y0
  clear hb hP hG hpb
  go_wp2_with fail
  refine (HN2.out _ (kb HW0.out HB3.out) (by omega) (by omega)).mono ?_
  rintro _ w4 ⟨qb, F2, G2, rfl, hQ, hG2, hqb, hb⟩
  unfold okV
  have hz3 := HB3.out.size
  have HI := Lib.hid (show TwoI (w.heap.size + 2) W0 pb qb ⟨lp, ls, [], [], [], []⟩ ⟨lp, lr, [], [], [], []⟩ F G F2 G2 w4 from
    ⟨(PO.frm _ _).below HP.out.1 hb, hQ, (Apart.fresh (PO.frm _ _) HP.out.1 hG2 (fun b hf => (PO.frm _ _).sub hQ b hf)).symm, by have := kb HB3.out hb; rw [hWs] at this; exact this,
      fun k hk => by have := HP.out.2 k ((PO.frm _ _).sub HP.out.1 k hk); omega, fun k hk => by have := hG2 k ((PO.frm _ _).sub hQ k hk); omega⟩)
  have HLB := Lib.hid (show LowB ⟨lp, ls, [], [], [], []⟩ ⟨lp, lr, [], [], [], []⟩ from ⟨rfl, HLN.out.2.1.trans HLN.out.2.2.2.1.symm, rfl, alikeL_refl _, rfl, rfl, HSB.out.1, HSB.out.2, fun x hx => absurd hx (List.not_mem_nil), fun x hx => absurd hx (List.not_mem_nil)⟩)
  have HFit := Lib.hid (And.intro (fit_new (lp := lp) (ls := ls) (by rw [HLN.out.1]; exact hn1) (by rw [HLN.out.2.1]; exact hn2)) (fit_new (lp := lp) (ls := lr) (by rw [HLN.out.1]; exact hn1) (by rw [HLN.out.2.2.2.1]; exact hn2)))
  clear hb hQ hG2 hqb HP HB3 HB2 x0 x1 y0 y1 hxl hyl hz1 hz3
  go_wp2_with fail
  refine (lowp_c pb qb _ _ HFit.out.1 HLB.out.r _ _ _ _ _ HI.out.p HI.out.q).mono ?_
  rintro _ w5 ⟨rfl, hb⟩
  have HI5 := Lib.hid (HI.out.below (by omega) hb)
  clear hb HI
  go_wp2_with fail
  go_loopg [11] n (fun kx s wr => ∃ k : Nat, s = .int .i64 k ∧ k ≤ n ∧ n - k ≤ kx ∧ Hid (∃ S T F G F2 G2, TwoI (w.heap.size + 2) W0 pb qb S T F G F2 G2 wr ∧ LowB S T ∧ Fit S ∧ Fit T))
  case atStart => exact ⟨0, by simp, Nat.zero_le _, by omega, Lib.hid ⟨_, _, _, _, _, _, HI5.out, HLB.out, HFit.out⟩⟩
  case round =>
    obtain ⟨k, rfl, hk, hkx, HR⟩ := hrel
    obtain ⟨S, T, F, G, F2, G2, hT, hLB, hFS, hFT⟩ := HR.out
    have HT := Lib.hid hT
    have HLow := Lib.hid hLB
    have HFt := Lib.hid (And.intro hFS hFT)
    have hBw := hT.bel
    have hBwz := hBw.size
    have HBw := Lib.hid (HW0.out.trans (hBw.mono (by omega)))
    have hwz : w.heap.size + 1 < wr.heap.size := by omega
    have y0 : wr.cell? ⟨w.heap.size + 1, 0, none⟩ = some (.slice p3 m1 c3) := (hBw.cell (p := ⟨w.heap.size + 1, 0, none⟩) (by show w.heap.size + 1 < w.heap.size + 2; omega)).trans d0
    obtain ⟨a1f, a2f, a3f, a4f, a5f⟩ := ap1f hwz
    clear hT hLB hFS hFT hBw hBwz HR
    by_cases hlt : k < n
    · have hd : decide ((k : Int) < (n : Int)) = true := decide_eq_true (by omega)
      have hkl : k < l.length := by have := HLN.out.2.2.2.2; omega
      obtain ⟨g, o, cap, e1, _, hc⟩ := HV.out.some (by omega)
      rw [HLN.out.2.2.2.2] at e1
      obtain ⟨rfl, -, rfl⟩ := Value.slice.inj e1
      obtain ⟨z0, z1, z2, z3, z4⟩ := cl_at (N := 0) (n := n) (c := 0) hc HBw.out hkl
      have hgd := HG.out l[k] (List.getElem_mem hkl)
      generalize l[k] = X at *
      obtain ⟨xa, xr, xv, xt, xc⟩ := X
      obtain ⟨-, hxv, hxt⟩ := hgd
      dsimp only at z0 z1 z2 z3 z4 hxt hxv
      have hgl := klt z0
      have hin : (0 : Int) ≤ (k : Int) ∧ (k : Int) < (n : Int) := by omega
      have hBr := Below.refl wr.heap.size wr
      clear e1 hc hkl
      by_cases ha : xa = 0
      · subst ha
        obtain ⟨e1, e2, e3, e4⟩ := low_read HLow.out xr
        have HLow' := Lib.hid (low_readS HLow.out xr)
        have HFt' := Lib.hid (And.intro (HFt.out.1.op 0 xr 0 0 0) (HFt.out.2.op 0 xr 0 0 0))
        have HRP := Lib.hid (fun W (hW : PO pb S F G W) => readp_c pb S F G xr HFt.out.1.cyc W hW)
        have HRQ := Lib.hid (fun W (hW : PO qb T F2 G2 W) => readp_c qb T F2 G2 xr HFt.out.2.cyc W hW)
        unfold readV at HRP HRQ
        obtain ⟨⟨V1, T1, E1⟩, hr1⟩ : ∃ X, readP S xr = X := ⟨_, rfl⟩
        obtain ⟨⟨V2, T2, E2⟩, hr2⟩ : ∃ X, readP T xr = X := ⟨_, rfl⟩
        rw [hr1] at e1 e2 e3 e4 HRP
        rw [hr2] at e1 e2 e3 HRQ
        dsimp only at e1 e2 e3 e4 HRP HRQ
        subst e1
        subst e2
        obtain ⟨X, hX⟩ : ∃ X, bits .or .u8 V1 T1 = X := ⟨_, rfl⟩
        have hY : bits .or .u8 V2 T1 = X := e3.symm.trans hX
        clear e3 hr1 hr2
        have hTT : T1 = 0 ∨ ((T1 != 0) = true ∧ (xr = 1 ∨ xr = 3)) := by
          by_cases h0 : T1 = 0
          · exact .inl h0
          · exact .inr ⟨by simpa using h0, e4 h0⟩
        clear e4
        go_wp2_with fail
        have HT1 := Lib.hid (HT.out.below (u := wr.alloc (.cells #[.int .i64 0, .int .i64 xr, .int .u8 xv, .int .u8 xt, .int .i64 xc] 42)) (by omega) ((Below.refl _ _).alloc (Nat.le_refl _) _))
        have nF := HT.out.newF (Nat.le_refl _)
        have nQ := HT.out.newQ (Nat.le_refl _)
        refine (HRP.out _ HT1.out.p).mono ?_
        rintro _ u1 ⟨rfl, F', G', hP, hM⟩
        have HT2 := Lib.hid (HT1.out.move (by omega) hM hP)
        have hz := hM.fr.size
        simp only [World.size_alloc] at hz
        have r1 : u1.cell? ⟨wr.heap.size, 1, none⟩ = some (.int .i64 xr) := hM.cell (by go_simp; first | done | rfl) nF
        have hzu : wr.heap.size < u1.heap.size := klt r1
        have hBu1 := Below.refl u1.heap.size u1
        clear hP hM hz hBr nF
        go_wp2_with fail
        have HT3 := Lib.hid (HT2.out.below (u := u1.alloc (.cells #[.int .u8 V1, .int .u8 T1] 40)) (by omega) ((Below.refl _ _).alloc (Nat.le_refl _) _))
        have nQ2 := HT2.out.newQ (Nat.le_refl _)
        refine (HRQ.out _ HT3.out.q).mono ?_
        rintro _ u2 ⟨rfl, F3, G3, hP, hM⟩
        have HT4 := Lib.hid (HT3.out.moveQ (by omega) hM hP)
        have r1' : u2.cell? ⟨wr.heap.size, 1, none⟩ = some (.int .i64 xr) := hM.cell (by go_simp; first | done | rfl) nQ
        have a0 : u2.cell? ⟨u1.heap.size, 0, none⟩ = some (.int .u8 V1) := hM.cell (by go_simp; first | done | rfl) nQ2
        have a1 : u2.cell? ⟨u1.heap.size, 1, none⟩ = some (.int .u8 T1) := hM.cell (by go_simp; first | done | rfl) nQ2
        have hzu2 : u1.heap.size < u2.heap.size := klt a0
        have hzu3 : wr.heap.size < u2.heap.size := klt r1'
        have hBu2 := Below.refl u2.heap.size u2
        clear hP hM nQ nQ2 hBu1 r1
        rcases hTT with rfl | ⟨hT0, rfl | rfl⟩
        all_goals
          go_wp2
          go_roundg (n - (k + 1))
          case measure => omega
          case rel => exact ⟨k + 1, by go_num, by omega, by omega, Lib.hid ⟨_, _, _, _, _, _, HT4.out.below (by omega) (by go_grown), HLow'.out, HFt'.out⟩⟩
      · have ha0 : (xa == 0) = false := by simpa using ha
        clear ha
        by_cases hcon : xr = 4 ∧ xt ≠ 0
        · obtain ⟨rfl, hx0⟩ := hcon
          have hx1 : (xt != 0) = true := by simpa using hx0
          clear hx0
          go_wp2
          go_roundg (n - (k + 1))
          case measure => omega
          case rel => exact ⟨k + 1, by go_num, by omega, by omega, Lib.hid ⟨_, _, _, _, _, _, HT.out.below (by omega) (by go_grown), HLow.out, HFt.out⟩⟩
        · have hq : (xr == 4) = false ∨ ((xr == 4) = true ∧ (xt != 0) = false) := by
            by_cases h4 : xr = 4
            · refine .inr ⟨by simpa using h4, ?_⟩
              have : xt = 0 := Classical.byContradiction fun h => hcon ⟨h4, h⟩
              simp [this]
            · exact .inl (by simpa using h4)
          have HWP := Lib.hid (fun W (hW : PO pb S F G W) => writep_c pb S F G xr xv xt xc hxt HFt.out.1.cyc W hW)
          have HWQ := Lib.hid (fun V' W (hW : PO qb T F2 G2 W) => writep_c qb T F2 G2 xr V' xt xc hxt HFt.out.2.cyc W hW)
          have HLow' := Lib.hid (fun V' (hr : TurnR xv xt V') => low_writeS HLow.out xr xv xt xc V' hxv hxt hr hcon)
          have HFt' := Lib.hid (And.intro (HFt.out.1.op 1 xr xv xt xc) (fun V' => HFt.out.2.op 1 xr V' xt xc))
          unfold writeV at HWP HWQ
          rw [← low_writeE HLow.out] at HWQ
          generalize writeE S xr xt = WE at *
          obtain ⟨RU, RE⟩ := WE
          dsimp only at HWP HWQ
          by_cases hm : m1 = 0
          · subst hm
            rcases hq with hq | ⟨hq, hq2⟩
            all_goals
              go_wp2_with fail
              have HT1 := Lib.hid (HT.out.below (u := (wr.alloc (.cells #[.int .i64 xa, .int .i64 xr, .int .u8 xv, .int .u8 xt, .int .i64 xc] 42)).alloc (.cells #[.int .u8 xv, .int .u8 xt] 40)) (by omega) (((Below.refl _ _).alloc (Nat.le_refl _) _).alloc (by simp) _))
              have nF := HT.out.newF (Nat.le_refl _)
              have nF2 := HT.out.newF (Nat.le_succ wr.heap.size)
              refine (HWP.out _ HT1.out.p).mono ?_
              rintro _ u1 ⟨rfl, F', G', hP, hM⟩
              have HT2 := Lib.hid (HT1.out.move (by omega) hM hP)
              have r1 : u1.cell? ⟨wr.heap.size, 1, none⟩ = some (.int .i64 xr) := hM.cell (by go_simp; first | done | rfl) nF
              have r4 : u1.cell? ⟨wr.heap.size, 4, none⟩ = some (.int .i64 xc) := hM.cell (by go_simp; first | done | rfl) nF
              have t0 : u1.cell? ⟨wr.heap.size + 1, 0, none⟩ = some (.int .u8 (xv)) := hM.cell (by go_simp; first | done | rfl) nF2
              have t1 : u1.cell? ⟨wr.heap.size + 1, 1, none⟩ = some (.int .u8 xt) := hM.cell (by go_simp; first | done | rfl) nF2
              have hzu : wr.heap.size < u1.heap.size := klt r1
              have hzu2 : wr.heap.size + 1 < u1.heap.size := klt t0
              clear hP hM hBr nF nF2
              go_wp2_with fail
              refine (HWQ.out _ _ HT2.out.q).mono ?_
              rintro _ u2 ⟨rfl, F3, G3, hP, hM⟩
              have HT3 := Lib.hid (HT2.out.moveQ (by omega) hM hP)
              clear hP hM r1 r4 t0 t1
              go_wp2
              go_roundg (n - (k + 1))
              case measure => omega
              case rel => exact ⟨k + 1, by go_num, by omega, by omega, Lib.hid ⟨_, _, _, _, _, _, HT3.out, HLow'.out _ (turn_same hxv), HFt'.out.1, HFt'.out.2 _⟩⟩
          · have hm0 : decide ((0 : Int) < (m1 : Int)) = true := decide_eq_true (by omega)
            obtain ⟨g3, o3, cap3, e3, _, hc3⟩ := HQ.out.1.some (by rw [HLN.out.2.2.1]; omega)
            rw [HLN.out.2.2.1] at e3
            obtain ⟨rfl, -, rfl⟩ := Value.slice.inj e3
            obtain ⟨j, hj⟩ : ∃ j, k % m1 = j := ⟨_, rfl⟩
            have hjm : j < m1 := by rw [← hj]; exact Nat.mod_lt _ (by omega)
            have hjl : j < lq.length := by rw [HLN.out.2.2.1]; exact hjm
            have q0 := hc3 j _ (List.getElem?_eq_getElem hjl) 0 _ rfl
            have hxb := HQ.out.2.1 lq[j] (List.getElem_mem hjl)
            rw [Nat.mul_one, Nat.add_zero] at q0
            generalize lq[j] = X at *
            have HTurn := Lib.hid (turn_xor hxv hxt hxb)
            have q0 := kc HBw.out q0
            have hgq := klt q0
            have hrem : ((k : Int).tmod (m1 : Int)) = (j : Int) := by rw [← hj]; rfl
            have hmne : ¬ ((m1 : Int) = 0) := by omega
            have hmne2 : ((m1 : Int) == 0) = false := by simpa using hmne
            have hinj : (0 : Int) ≤ (j : Int) ∧ (j : Int) < (m1 : Int) := by omega
            have hjw : IntKind.i64.wrap (j : Int) = (j : Int) := IntWalk.i64_in _ (by omega)
            clear e3 hc3 hjl hj hxb
            rcases hq with hq | ⟨hq, hq2⟩
            all_goals
              have hxb_0 := y0
              have hyb_0 := q0
              have hB := hBr
              go_wp2_with fail
              refine wp_region_planT 15 (fun w' => w'.cell? ⟨wr.heap.size, 0, none⟩ = some (.int .i64 xa) ∧ w'.cell? ⟨wr.heap.size, 1, none⟩ = some (.int .i64 xr) ∧ w'.cell? ⟨wr.heap.size, 2, none⟩ = some (.int .u8 xv) ∧ w'.cell? ⟨wr.heap.size, 3, none⟩ = some (.int .u8 xt) ∧ w'.cell? ⟨wr.heap.size, 4, none⟩ = some (.int .i64 xc) ∧ w'.cell? ⟨wr.heap.size + 1, 0, none⟩ = some (.int .u8 xv) ∧ w'.frozen? ⟨wr.heap.size + 1, 0, none⟩ = false ∧ w'.cell? ⟨wr.heap.size + 1, 1, none⟩ = some (.int .u8 xt) ∧ w'.frozen? ⟨wr.heap.size + 1, 1, none⟩ = false ∧ w'.cell? ⟨w.heap.size + 1, 0, none⟩ = some (.slice (some ⟨g3, o3, none⟩) m1 c3) ∧ w'.cell? ⟨g3, o3 + j, none⟩ = some (.int .u8 X) ∧ Below wr.heap.size wr w') (by kernel_rfl) (by kernel_rfl) (by kernel_rfl) (by kernel_rfl) ?_ ?_
              · (try dsimp only)
                refine ⟨?_, ?_, ?_, ?_, ?_, ?_, ?_, ?_, ?_, ?_, ?_, ?_⟩ <;> first | (go_simp; done) | (simp [*]; done) | go_grown
              (try simp only [List.append_eq, List.cons_append, List.nil_append, List.toList_toArray, List.take_succ_cons, List.take_zero, List.drop_succ_cons, List.drop_zero])
              repeat (first
                | (refine Plan.val (v := ?_) ?_ ?_ ?_; rotate_left; (· rfl); (· (intro W hSw; (try dsimp only at hSw); go_simp; all_goals (first | (with_reducible rfl) | (constructor <;> (with_reducible rfl)) | (rw [if_neg (by omega)]; done) | (rw [if_neg (by omega)]; with_reducible rfl)))); (try simp only [Act.put, List.setIfInBounds_toArray, List.set_cons_zero, List.set_cons_succ]))
                | (refine Plan.no ?_ ?_; (· rfl); (try simp only [Act.put, List.setIfInBounds_toArray, List.set_cons_zero, List.set_cons_succ])))
              refine Plan.done ?_
              intro u T
              (try dsimp only at T)
              obtain ⟨hob_0, hob_1, hob_2, hob_3, hob_4, htb_0, ftb_0, htb_1, ftb_1, hxb_0, hyb_0, hB⟩ := T
              have hsz := hB.size
              have hlob := klt hob_0
              have hltb := klt htb_0
              have hlxb := klt hxb_0
              have hlyb := klt hyb_0
              obtain ⟨hnob0, hnob1, hkob1, hnob2, hkob2⟩ := ap0 hlob
              obtain ⟨hntb0, hktb1⟩ := ap1 hltb
              obtain ⟨hnxb0, hnxb1, hkxb1, hnxb2, hkxb2⟩ := ap1f hlxb
              obtain ⟨hnyb0, hnyb1, hkyb1, hnyb2, hkyb2⟩ := ap0 hlyb
              generalize bits .xor .u8 xv (bits .and .u8 xt X) = V' at *
              go_wp2_with fail
              have HT1 := Lib.hid (HT.out.below (u := u.setCell ⟨wr.heap.size + 1, 0, none⟩ (.int .u8 V')) (by omega) (by go_grown))
              have nF := HT.out.newF (Nat.le_refl _)
              have nF2 := HT.out.newF (Nat.le_succ wr.heap.size)
              refine (HWP.out _ HT1.out.p).mono ?_
              rintro _ u1 ⟨rfl, F', G', hP, hM⟩
              have HT2 := Lib.hid (HT1.out.move (by omega) hM hP)
              have r1 : u1.cell? ⟨wr.heap.size, 1, none⟩ = some (.int .i64 xr) := hM.cell (by go_simp; first | done | rfl) nF
              have r4 : u1.cell? ⟨wr.heap.size, 4, none⟩ = some (.int .i64 xc) := hM.cell (by go_simp; first | done | rfl) nF
              have t0 : u1.cell? ⟨wr.heap.size + 1, 0, none⟩ = some (.int .u8 (V')) := hM.cell (by go_simp; first | done | rfl) nF2
              have t1 : u1.cell? ⟨wr.heap.size + 1, 1, none⟩ = some (.int .u8 xt) := hM.cell (by go_simp; first | done | rfl) nF2
              have hzu : wr.heap.size < u1.heap.size := klt r1
              have hzu2 : wr.heap.size + 1 < u1.heap.size := klt t0
              clear hP hM hBr nF nF2
              go_wp2_with fail
              refine (HWQ.out _ _ HT2.out.q).mono ?_
              rintro _ u2 ⟨rfl, F3, G3, hP, hM⟩
              have HT3 := Lib.hid (HT2.out.moveQ (by omega) hM hP)
              clear hP hM r1 r4 t0 t1
              go_wp2
              go_roundg (n - (k + 1))
              case measure => omega
              case rel => exact ⟨k + 1, by go_num, by omega, by omega, Lib.hid ⟨_, _, _, _, _, _, HT3.out, HLow'.out _ (HTurn.out), HFt'.out.1, HFt'.out.2 _⟩⟩
    · have hge : decide ((k : Int) < (n : Int)) = false := decide_eq_false (by omega)
      have HLR := Lib.hid HLow.out.r
      go_wp2_with fail
      refine (lowp_c pb qb _ _ HFt.out.1 HLR.out _ _ _ _ _ HT.out.p HT.out.q).mono ?_
      rintro _ u1 ⟨rfl, hb⟩
      have HT1 := Lib.hid (HT.out.below (by omega) hb)
      clear hb
      go_wp2_with fail
      refine (lowp_c qb pb _ _ HFt.out.2 HLR.out.symm _ _ _ _ _ HT1.out.q HT1.out.p).mono ?_
      rintro _ u2 ⟨rfl, hb⟩
      have HT2 := Lib.hid (HT1.out.below (by omega) hb)
      clear hb
      go_wp2_with fail
      refine (out_b pb _ HFt.out.1 _ _ _ HT2.out.p).mono ?_
      rintro _ u3 ⟨vo, rfl, ho, hb⟩
      have HT3 := Lib.hid (HT2.out.below (by omega) hb)
      have HO1 := Lib.hid (HoldsW.own bE_len ho)
      obtain ⟨qo, co, rfl⟩ := own_form ho
      clear hb ho
      go_wp2_with fail
      refine (out_b qb _ HFt.out.2 _ _ _ HT3.out.q).mono ?_
      rintro _ u4 ⟨vo2, rfl, ho, hb⟩
      have HT4 := Lib.hid (HT3.out.below (by omega) hb)
      have HO2 := Lib.hid (And.intro (HO1.out.below hb) (HoldsW.own bE_len ho))
      obtain ⟨qo2, co2, rfl⟩ := own_form ho
      clear hb ho
      go_wp2_with fail
      refine (bytes11_c S.out (by have := HFt.out.1.out; omega) _ _ _ HO2.out.1 (by rw [HLow.out.out]; exact HO2.out.2)).mono ?_
      rintro _ u5 ⟨rfl, hb⟩
      have HT5 := Lib.hid (HT4.out.below (by omega) hb)
      clear hb
      go_wp2_with fail
      refine (awake11_c _).mono ?_
      rintro _ u6 ⟨rfl, hb⟩
      have HT6 := Lib.hid (HT5.out.below (by omega) hb)
      clear hb
      go_wp2
      go_ret
      exact ⟨rfl, HW0.out.trans (HT6.out.bel.mono (by omega))⟩
end Go.Proofs.Ytbahjcnamalhcaa
