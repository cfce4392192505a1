/-
  PortsPlay: its walk.
-/
import Derived.Test.YtbahjcnamalhcaaPlay11
import Derived.Test.YtbahjcnamalhcaaOpen11
set_option linter.unusedSimpArgs false
set_option linter.unusedVariables false
namespace Go.Proofs.Ytbahjcnamalhcaa
open Go.RowKit Go.PlainAid

theorem few_parts {p s n : Nat} (h : fewB p s n = true) : p ≤ 300 ∧ s ≤ 300 ∧ n ≤ 200 := by
  unfold fewB at h
  simp only [Bool.and_eq_true, decide_eq_true_eq] at h
  exact ⟨h.1.1, h.1.2, h.2⟩
theorem fit_new {lp ls : List Int} (h1 : lp.length ≤ 300) (h2 : ls.length ≤ 300) : Fit ⟨lp, ls, [], [], [], []⟩ := ⟨by dsimp only; omega, by dsimp only; omega, Nat.zero_le _, Nat.zero_le _, Nat.zero_le _, rfl⟩
/-- A call in the row of calls. -/
theorem cl_at {w wr : World} {N g o n c k : Nat} {l : List Cl} (hc : ∀ j (x : Cl), l[j]? = some x → ∀ i u, (clE x)[i]? = some u → w.cell? ⟨g, o + j * 5 + i, none⟩ = some u) (hb : Below w.heap.size w wr) (hk : k < l.length) :
    wr.cell? ⟨g, o + k * 5, none⟩ = some (.int .i64 l[k].ask) ∧ wr.cell? ⟨g, o + k * 5 + 1, none⟩ = some (.int .i64 l[k].reg) ∧ wr.cell? ⟨g, o + k * 5 + 2, none⟩ = some (.int .u8 l[k].v) ∧ wr.cell? ⟨g, o + k * 5 + 3, none⟩ = some (.int .u8 l[k].t) ∧ wr.cell? ⟨g, o + k * 5 + 4, none⟩ = some (.int .i64 l[k].cy) := by
  have h := hc k _ (List.getElem?_eq_getElem hk)
  refine ⟨kc hb ?_, kc hb ?_, kc hb ?_, kc hb ?_, kc hb ?_⟩
  · exact h 0 _ rfl
  · exact h 1 _ rfl
  · exact h 2 _ rfl
  · exact h 3 _ rfl
  · exact h 4 _ rfl
set_option maxRecDepth 100000 in
set_option maxHeartbeats 16000000 in
theorem play_walk (v1 v2 : Value) (lp ls : List Int) (l : List Cl) (v : Value) (at0 : Int) (hi : -9223372036854775808 ≤ at0 ∧ at0 ≤ 9223372036854775807) (w : World) (hv1 : InB w v1 lp) (hv2 : InB w v2 ls) (hv : HoldsW clE 5 w v l) (hg : ∀ x ∈ l, clG x) (hl : l.length ≤ 9223372036854775807) (hlt : 0 < l.length → ∀ g, v.ownBlock = some g → g < w.heap.size) :
    Calls Try.prog 3 #[.agg #[v1, v2], v, .int .i64 at0] w fun e w' => e = .returned (.bool true) ∧ Below w.heap.size w w' := by
  obtain ⟨pv, cv, rfl⟩ := hv.form
  obtain ⟨p1, c1, rfl⟩ := hv1.1.form
  obtain ⟨p2, c2, rfl⟩ := hv2.1.form
  have HV1 := Lib.hid hv1
  have HV2 := Lib.hid hv2
  have HV := Lib.hid hv
  have HG := Lib.hid hg
  have HF := Lib.hid (fun W => few11_c lp.length ls.length l.length p1 p2 pv c1 c2 cv W)
  have HFA := Lib.hid (fun h => few_parts (p := lp.length) (s := ls.length) (n := l.length) h)
  have HN := Lib.hid (fun W (hW : Below w.heap.size w W) (h1 : lp.length ≤ 65536) (h2 : ls.length ≤ 65536) => newp_c lp ls h1 h2 _ _ W (hv1.1.below hW) (hv2.1.below hW))
  clear hv1 hv2 hv hg hl hlt
  generalize hlp : lp.length = n1 at *
  generalize hls : ls.length = n2 at *
  generalize hln : l.length = n at *
  have HLN := Lib.hid (And.intro hlp (And.intro hls hln))
  clear hlp hls hln
  cases hF : fewB n1 n2 n
  · rw [hF] at HF
    clear HFA hF hi
    go_enter Try.func3, Try.ntmps3
    go_wp2_with fail
    ((with_reducible refine (HF.out _).mono ?_); rintro _ u1 ⟨rfl, hb⟩)
    have hz := hb.size
    (try simp only [World.size_alloc, World.size_setCell, World.size_drew] at hz)
    have hB' : Below w.heap.size w u1 := by
        refine kb ?_ hb
        go_grown
    clear hb hz
    have hB := hB'; clear hB'
    have hsz := hB.size
    go_wp2_with fail
    ((with_reducible refine (awake11_c _).mono ?_); rintro _ u2 ⟨rfl, hb⟩)
    have hz := hb.size
    (try simp only [World.size_alloc, World.size_setCell, World.size_drew] at hz)
    have hB' : Below w.heap.size w u2 := by
        refine kb ?_ hb
        go_grown
    clear hB hsz
    clear hb hz
    have hB := hB'; clear hB'
    have hsz := hB.size
    go_wp2
    go_ret
    exact ⟨rfl, by go_grown⟩
  · rw [hF] at HF
    obtain ⟨hn1, hn2, hn⟩ := HFA.out hF
    clear HFA hF hi
    go_enter Try.func3, Try.ntmps3
    go_wp2_with fail
    obtain ⟨W0, hW0⟩ : ∃ W, W = w.alloc (.cells #[.slice p1 n1 c1, .slice p2 n2 c2] 24) := ⟨_, rfl⟩
    have b0 : W0.cell? ⟨w.heap.size, 0, none⟩ = some (.slice p1 n1 c1) := by rw [hW0]; go_simp; first | done | rfl
    have b1 : W0.cell? ⟨w.heap.size, 1, none⟩ = some (.slice p2 n2 c2) := by rw [hW0]; go_simp; first | done | rfl
    have hWs : W0.heap.size = w.heap.size + 1 := by rw [hW0]; simp
    have HW0 := Lib.hid (show Below w.heap.size w W0 from by rw [hW0]; exact (Below.refl _ _).alloc (Nat.le_refl _) _)
    rw [← hW0]
    clear hW0
    refine (HF.out _).mono ?_
    rintro _ u1 ⟨rfl, hb⟩
    have HB1 := Lib.hid hb
    have x0 := kc hb b0
    have x1 := kc hb b1
    have hxl := klt x0
    clear hb
    go_wp2_with fail
    refine (HN.out _ (kb HW0.out HB1.out) (by omega) (by omega)).mono ?_
    rintro _ u ⟨pb, F, G, rfl, hP, hG, hpb, hb⟩
    unfold okV
    have hz1 := HB1.out.size
    have hz2 := hb.size
    have HI := Lib.hid (loop_new (N := w.heap.size + 1) (W0 := W0) hP (fit_new (by rw [HLN.out.1]; exact hn1) (by rw [HLN.out.2.1]; exact hn2)) (by rw [← hWs]; exact kb HB1.out hb) (by omega) (fun k hk => by have := hG k hk; omega) (HV1.out.1.below (kb HW0.out (kb HB1.out hb))) (HV2.out.1.below (kb HW0.out (kb HB1.out hb)))
      (fun h k hk => by have := HV1.out.2.2.2 (List.length_pos_iff.2 h) k hk; omega) (fun h k hk => by have := HV2.out.2.2.2 (List.length_pos_iff.2 h) k hk; omega) 36)
    have x0 := kc hb x0
    have x1 := kc hb x1
    have hxu := klt x0
    have hFl := Lib.hid (fun k hk => (PO.frm _ _).lt hP k hk)
    clear hP hG hb hpb
    go_wp2_with fail
    have HI2 := Lib.hid (show ∃ kb, kb = u.heap.size + 1 ∧ PlayI (w.heap.size + 1) W0 pb u.heap.size kb ⟨lp, ls, [], [], [], []⟩ F G (.slice p1 n1 c1) (.slice p2 n2 c2) (.slice none 0 0) (.slice none 0 0) (.slice none 0 0) (.slice none 0 0) (.pointer none) ((u.alloc (.cells #[.slice p1 n1 c1, .slice p2 n2 c2, .slice none 0 0, .slice none 0 0, .slice none 0 0, .slice none 0 0] 36)).alloc (.cells #[.slice none 0 0, .slice none 0 0, .slice none 0 0, .slice none 0 0, .slice none 0 0, .slice none 0 0] 36)) from by
      have hi := HI.out
      refine ⟨_, rfl, hi.below (by omega) ((Below.refl _ _).alloc (Nat.le_refl _) _), by simp, fun hf => ?_, fun hf => ?_, fun i hi6 => ?_, .inl rfl⟩
      · have := hFl.out _ hf; omega
      · have := (DO.frm _ _).lt (DO.of hi.both.dp) _ hf
        simp at this
      · match i, hi6 with
        | 0, _ => exact ⟨⟨_, by go_simp; first | done | rfl⟩, by go_simp⟩
        | 1, _ => exact ⟨⟨_, by go_simp; first | done | rfl⟩, by go_simp⟩
        | 2, _ => exact ⟨⟨_, by go_simp; first | done | rfl⟩, by go_simp⟩
        | 3, _ => exact ⟨⟨_, by go_simp; first | done | rfl⟩, by go_simp⟩
        | 4, _ => exact ⟨⟨_, by go_simp; first | done | rfl⟩, by go_simp⟩
        | 5, _ => exact ⟨⟨_, by go_simp; first | done | rfl⟩, by go_simp⟩
        | i + 6, h => omega)
    have hNk : w.heap.size + 1 ≤ u.heap.size + 1 := by omega
    generalize ((u.alloc (.cells #[.slice p1 n1 c1, .slice p2 n2 c2, .slice none 0 0, .slice none 0 0, .slice none 0 0, .slice none 0 0] 36)).alloc (.cells #[.slice none 0 0, .slice none 0 0, .slice none 0 0, .slice none 0 0, .slice none 0 0, .slice none 0 0] 36)) = U at *
    clear HI hFl x0 x1 hxu hz1 hz2 HB1 hxl
    generalize hkb : u.heap.size + 1 = kb at *
    generalize u.heap.size = rb at *
    clear hkb
    go_loopg [10, 12] n (fun kx s10 s12 wr => ∃ k : Nat, s12 = .int .i64 k ∧ k ≤ n ∧ n - k ≤ kx ∧ ((s10 = .pointer none) ∨ ∃ cb, s10 = .pointer (some ⟨cb, 0, none⟩)) ∧ Hid (∃ S F G x y a b c d, PlayI (w.heap.size + 1) W0 pb rb kb S F G x y a b c d s10 wr))
    case atStart => 
      refine ⟨0, by simp, Nat.zero_le _, by omega, .inl rfl, Lib.hid ?_⟩
      obtain ⟨_, rfl, h⟩ := HI2.out
      exact ⟨_, _, _, _, _, _, _, _, _, h⟩
    case round =>
      obtain ⟨k, rfl, hk, hkx, hcv, HR⟩ := hrel
      obtain ⟨S, F, G, x, y, a, b, c, d, hPl⟩ := HR.out
      have HPl := Lib.hid hPl
      have hBw := hPl.l.bel
      have HBw := Lib.hid (HW0.out.trans (hBw.mono (by omega)))
      clear hPl hBw HR
      by_cases hlt : k < n
      · have hd : decide ((k : Int) < (n : Int)) = true := decide_eq_true (by omega)
        have hkl : k < l.length := by have := HLN.out.2.2; omega
        obtain ⟨g, o, cap, e1, _, hc⟩ := HV.out.some (by omega)
        rw [HLN.out.2.2] at e1
        obtain ⟨rfl, -, rfl⟩ := Value.slice.inj e1
        obtain ⟨y0, y1, y2, y3, y4⟩ := cl_at (N := 0) (n := n) (c := 0) hc HBw.out hkl
        have hgd := HG.out l[k] (List.getElem_mem hkl)
        generalize l[k] = X at *
        obtain ⟨xa, xr, xv, xt, xc⟩ := X
        obtain ⟨-, -, hxt⟩ := hgd
        dsimp only at y0 y1 y2 y3 y4 hxt
        have hgl := klt y0
        have hgw : g < w.heap.size := by
          have := hc k _ (List.getElem?_eq_getElem hkl) 0 _ rfl
          exact klt this
        have hin : (0 : Int) ≤ (k : Int) ∧ (k : Int) < (n : Int) := by omega
        clear e1 hc hkl
        by_cases hat : (k : Int) = at0
        · have hq : ((k : Int) == at0) = true := by simpa using hat
          have HC := Lib.hid (clonep_c pb S HPl.out.l.fit F G wr HPl.out.l.both.po)
          go_wp2_with fail
          refine (HC.out).mono ?_
          rintro _ u ⟨cb, Fc, Gc, rfl, hp, hGc, hcb, hb⟩
          have HM := Lib.hid (HPl.out.made (by omega) hNk hb hp hGc)
          have hu := HPl.out.below (by omega) hb
          have hD := hu.l.both.dp
          obtain ⟨⟨k2, o2⟩, ⟨k3, o3⟩, ⟨k4, o4⟩, k5, o5⟩ := hD.hold.at0
          have k0 := hD.p.c
          have k1 := hD.s.c
          obtain ⟨⟨w0, h0⟩, f0⟩ := hu.kc 0 (by omega)
          obtain ⟨⟨w1, h1⟩, f1⟩ := hu.kc 1 (by omega)
          obtain ⟨⟨w2, h2⟩, f2⟩ := hu.kc 2 (by omega)
          obtain ⟨⟨w3, h3⟩, f3⟩ := hu.kc 3 (by omega)
          obtain ⟨⟨w4, h4⟩, f4⟩ := hu.kc 4 (by omega)
          obtain ⟨⟨w5, h5⟩, f5⟩ := hu.kc 5 (by omega)
          have hkl := klt h0
          have hrl := klt k0
          have hkr : ¬ kb = rb := fun e => hu.nH (e ▸ .inl (.inl rfl))
          have hrk : ¬ rb = kb := fun e => hkr e.symm
          obtain ⟨qx, dx, rfl⟩ := hD.p.h.form
          obtain ⟨qy, dy, rfl⟩ := hD.s.h.form
          obtain ⟨qa, da, rfl⟩ := own_form o2
          obtain ⟨qb, db, rfl⟩ := own_form o3
          obtain ⟨qc, dc, rfl⟩ := own_form o4
          obtain ⟨qd, dd, rfl⟩ := own_form o5
          have y0 := kc hb y0
          have y1 := kc hb y1
          have y2 := kc hb y2
          have y3 := kc hb y3
          have y4 := kc hb y4
          have hgu := klt y0
          have hgk : ¬ g = kb := by omega
          have hgk2 : ¬ kb = g := by omega
          clear hp hGc hcb hb hu hD o2 o3 o4 o5 HPl HC hat HBw
          unfold put6 at HM
          go_wp2_with fail
          have HPl := HM
          clear HM
          have HD := Lib.hid (does_loop (by omega) S F G _ _ _ _ _ _ xa xr xv xt xc hxt _ HPl.out.l)
          refine (HD.out).mono ?_
          rintro _ u2 ⟨rfl, F', G', x', y', a', b', c', d', h1, h2, h3⟩
          have HP2 := Lib.hid (HPl.out.step h1 h2 h3)
          clear h1 h2 h3 y0 y1 y2 y3 y4
          go_wp2_with fail
          refine (same_loop _ _ _ _ _ _ _ _ _ _ HP2.out.l).mono ?_
          rintro _ u3 ⟨rfl, hb⟩
          have HP3 := Lib.hid (HP2.out.below (by omega) hb)
          clear hb
          go_wp2
          go_roundg (n - (k + 1))
          case measure => omega
          case rel => exact ⟨k + 1, by go_num, by omega, by omega, .inr ⟨_, rfl⟩, Lib.hid ⟨_, _, _, _, _, _, _, _, _, HP3.out⟩⟩
        · have hq : ((k : Int) == at0) = false := by simpa using hat
          have HD := Lib.hid (does_loop (by omega) S F G x y a b c d xa xr xv xt xc hxt wr HPl.out.l)
          clear hat
          go_wp2_with fail
          refine (HD.out).mono ?_
          rintro _ u2 ⟨rfl, F', G', x', y', a', b', c', d', h1, h2, h3⟩
          have HP2 := Lib.hid (HPl.out.step h1 h2 h3)
          clear h1 h2 h3 y0 y1 y2 y3 y4
          go_wp2_with fail
          refine (same_loop _ _ _ _ _ _ _ _ _ _ HP2.out.l).mono ?_
          rintro _ u3 ⟨rfl, hb⟩
          have HP3 := Lib.hid (HP2.out.below (by omega) hb)
          clear hb
          go_wp2
          go_roundg (n - (k + 1))
          case measure => omega
          case rel => exact ⟨k + 1, by go_num, by omega, by omega, hcv, Lib.hid ⟨_, _, _, _, _, _, _, _, _, HP3.out⟩⟩
      · have hd : decide ((k : Int) < (n : Int)) = false := decide_eq_false (by omega)
        rcases hcv with rfl | ⟨cb, rfl⟩
        · go_wp2_with fail
          refine (awake11_c _).mono ?_
          rintro _ u4 ⟨rfl, hb⟩
          have HB4 := Lib.hid (HPl.out.below (by omega) hb)
          clear hb
          go_wp2
          go_ret
          exact ⟨rfl, HW0.out.trans (HB4.out.l.bel.mono (by omega))⟩
        · have HS : Hid (Calls Try.prog 12 #[.pointer (some ⟨cb, 0, none⟩), .pointer (some ⟨kb, 0, none⟩)] wr fun e w' => e = .returned (.bool true) ∧ Below wr.heap.size wr w') := Lib.hid (by
            rcases HPl.out.cl with e | ⟨cb', Sk, Fc, Gc, x', y', a', b', c', d', e, hp, hf, hg, hk⟩
            · cases e
            · injection e with e
              injection e with e
              injection e with e
              subst e
              exact same11_c cb kb Sk hf Fc Gc wr hp ⟨_, _, _, _, _, _, hk.vc⟩)
          go_wp2_with fail
          refine (HS.out).mono ?_
          rintro _ u3 ⟨rfl, hb⟩
          have HB3 := Lib.hid (HPl.out.below (by omega) hb)
          clear hb
          go_wp2_with fail
          refine (awake11_c _).mono ?_
          rintro _ u4 ⟨rfl, hb⟩
          have HB4 := Lib.hid (HB3.out.below (by omega) hb)
          clear hb
          go_wp2
          go_ret
          exact ⟨rfl, HW0.out.trans (HB4.out.l.bel.mono (by omega))⟩
end Go.Proofs.Ytbahjcnamalhcaa
