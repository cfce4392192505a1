/-
  MemoryPlays: its walk.
-/
import Derived.Test.YtoakgchfdihjbaaDoorDoes8
set_option linter.unusedSimpArgs false
set_option linter.unusedVariables false
namespace Go.Proofs.YtoakgchfdihjbaaDoor
open Go.RowKit Go.PlainAid

theorem few_all {l : List OpR} (h : fewO l = true) : l.length ≤ 30 ∧ ∀ x ∈ l, bigO x = false := by
  unfold fewO at h
  rw [Bool.and_eq_true, decide_eq_true_eq] at h
  refine ⟨by omega, fun x hx => ?_⟩
  have := List.all_eq_true.1 h.1 x hx
  simpa using this
/-- An empty row of the document's, in a block of its own. -/
theorem rm_new (W : World) : Rm W.heap.size (W.heap.size + 1) (W.alloc (.cells #[.slice none 0 0] 30)) [] (.slice none 0 0) := by
  refine ⟨by go_simp, ?_, by go_simp, by omega, by simp⟩
  exact World.ownsRow_nil _ _ _ _
set_option maxRecDepth 100000 in
set_option maxHeartbeats 8000000 in
theorem plays_walk (l : List OpR) (v : Value) (w : World) (hv : HoldsO w.heap.size w v l) (hl : l.length ≤ 9223372036854775807) (hm : ∀ x ∈ l, x.l.length ≤ 9223372036854775807) (hL : Laid w) :
    Calls Tryd.prog 3 #[v] w fun e w' => e = .returned (.bool true) ∧ Below w.heap.size w w' := by
  have hlt := hL.lt
  have HA := Lib.hid (fun W (h : Below w.heap.size w W) => awake_c W (hL.below h))
  have HLd := Lib.hid (fun W (h : Below w.heap.size w W) => hL.below h)
  have HV := Lib.hid hv
  have HF := Lib.hid (fun W (h : Below w.heap.size w W) => few_c w.heap.size l hl v W (hv.below h))
  have HFA := Lib.hid (show fewO l = true → _ from few_all (l := l))
  obtain ⟨lp, lc, rfl⟩ := hv.form
  obtain ⟨n, hn⟩ : ∃ n, l.length = n := ⟨_, rfl⟩
  have HN := Lib.hid hn
  rw [hn] at HF hl ⊢
  clear hv hn hL hm
  generalize fewO l = F at *
  cases F
  · go_enter Tryd.func3, Tryd.ntmps3
    go_wp2_with fail
    ((with_reducible refine (new_x _ hlt).mono ?_); rintro _ u1 ⟨mb, bb, rfl, hb, hP, hmb, hbb⟩)
    have hs_u1 := Lib.hid hb
    have hz := hb.size
    (try simp only [World.size_alloc, World.size_setCell, World.size_drew] at hz)
    have hB' : Below w.heap.size w u1 := by
        refine kb ?_ hb
        go_grown
    clear hb hz
    have hB := hB'; clear hB'
    have hsz := hB.size
    go_wp2_with fail
    ((with_reducible refine (HF.out _ hB).mono ?_); rintro _ u2 ⟨rfl, hb⟩)
    have hz := hb.size
    (try simp only [World.size_alloc, World.size_setCell, World.size_drew] at hz)
    have hB' : Below w.heap.size w u2 := by
        refine kb ?_ hb
        go_grown
    clear hB hsz
    clear hb hz
    have hB := hB'; clear hB'
    have hsz := hB.size
    go_wp2_with fail
    ((with_reducible refine (HA.out _ hB).mono ?_); rintro _ u3 ⟨rfl, hb⟩)
    have hz := hb.size
    (try simp only [World.size_alloc, World.size_setCell, World.size_drew] at hz)
    have hB' : Below w.heap.size w u3 := by
        refine kb ?_ hb
        go_grown
    clear hB hsz
    clear hb hz
    have hB := hB'; clear hB'
    have hsz := hB.size
    go_wp2
    go_ret
    exact ⟨rfl, hB⟩
  · obtain ⟨hn30, hbig⟩ := HFA.out rfl
    rw [HN.out] at hn30
    have HBIG := Lib.hid hbig
    clear hbig
    go_enter Tryd.func3, Tryd.ntmps3
    go_wp2_with fail
    ((with_reducible refine (new_x _ hlt).mono ?_); rintro _ u1 ⟨mb, bb, rfl, hb, hP, hmb, hbb⟩)
    have hs_u1 := Lib.hid hb
    have hz := hb.size
    (try simp only [World.size_alloc, World.size_setCell, World.size_drew] at hz)
    have hB' : Below w.heap.size w u1 := by
        refine kb ?_ hb
        go_grown
    clear hb hz
    have hB := hB'; clear hB'
    have hsz := hB.size
    have HP1 := Lib.hid hP
    have hz1 : mb < u1.heap.size ∧ bb < u1.heap.size := ⟨klt hP.c0, hP.lt⟩
    clear hP
    go_wp2_with fail
    ((with_reducible refine (HF.out _ hB).mono ?_); rintro _ u2 ⟨rfl, hb⟩)
    have hs_u2 := Lib.hid hb
    have hz := hb.size
    (try simp only [World.size_alloc, World.size_setCell, World.size_drew] at hz)
    have hB' : Below w.heap.size w u2 := by
        refine kb ?_ hb
        go_grown
    clear hB hsz
    clear hb hz
    have hB := hB'; clear hB'
    have hsz := hB.size
    have HP2 := Lib.hid (HP1.out.below hs_u2.out)
    have hz2 := hs_u2.out.size
    clear HP1
    go_wp2_with fail
    obtain ⟨W0, hW0⟩ : ∃ W, u2.alloc (.cells #[.slice none 0 0] 30) = W := ⟨_, rfl⟩
    have hBW : Below u2.heap.size u2 W0 := by rw [← hW0]; exact (Below.refl _ _).alloc (Nat.le_refl _) _
    have hT0 : Two mb bb u2.heap.size (u2.heap.size + 1) W0 zeroM [] := by
      rw [← hW0]
      exact ⟨HP2.out.below ((Below.refl _ _).alloc (Nat.le_refl _) _), ⟨_, rm_new u2⟩, good_zero, (HLd.out u2 hB).below ((Below.refl _ _).alloc (Nat.le_refl _) _)⟩
    have hS0 : Spots mb bb u2.heap.size (u2.heap.size + 1) := ⟨by omega, by omega, by omega, by omega, by omega⟩
    have HT0 := Lib.hid hT0
    have HS0 := Lib.hid hS0
    have HB0 := Lib.hid (show Below w.heap.size w W0 from kb hB hBW)
    have hzx : w.heap.size ≤ u2.heap.size := hB.size
    rw [hW0]
    clear hW0 hT0 hS0 hBW HP2 hs_u2 hB hsz hz2 hz1
    generalize u2.heap.size = xb at *
    go_loopw [5] (fun s5 wr => ∃ k : Nat, k ≤ n ∧ s5 = .int .i64 k ∧ Hid (∃ M L, Two mb bb xb (xb + 1) wr M L ∧ Fr bb xb (xb + 1) W0 wr ∧ L.length ≤ 61 * k)) (fun i _ => n - (intOf i).toNat)
    case atStart => exact ⟨0, Nat.zero_le _, rfl, Lib.hid ⟨zeroM, [], HT0.out, Fr.refl _ _ _ _, by simp⟩⟩
    case round =>
      obtain ⟨k, hk, rfl, HR⟩ := hrel
      obtain ⟨M, L, hT, hF, hLl⟩ := HR.out
      have hBr : Below w.heap.size w wr := hF.below HB0.out hbb hzx (by omega)
      have HT := Lib.hid hT
      have HFr := Lib.hid hF
      have HLl := Lib.hid hLl
      clear hT hF hLl HR
      by_cases hlt2 : k < n
      · have hd : decide ((k : Int) < (n : Int)) = true := decide_eq_true (by omega)
        have hlk : k < l.length := by rw [HN.out]; exact hlt2
        rcases HV.out with ⟨_, e⟩ | ⟨g, o, cap, e1, hcap, hgN, hcc⟩
        · subst e; exact absurd hlk (by simp)
        obtain ⟨rfl, n1, rfl⟩ := Value.slice.inj e1
        clear e1 n1
        obtain ⟨lv, x0, x1, x2, x3, x4, x5, x6, x7⟩ := hcc k _ (List.getElem?_eq_getElem hlk)
        have hbk := HBIG.out l[k] (List.getElem_mem hlk)
        generalize l[k] = x at *
        obtain ⟨xq, xa, xb', xv, xt, xl⟩ := x
        dsimp only at x0 x1 x2 x3 x4 x5 x6 x7
        have HD := Lib.hid (show Calls Tryd.prog 11 #[.pointer (some ⟨mb, 0, none⟩), .pointer (some ⟨xb, 0, none⟩), .agg #[.int .i64 xq, .int .i64 xa, .int .i64 xb', .int .u8 xv, .int .u8 xt, lv]] wr (DoesEnd mb bb xb (xb + 1) wr L.length) from
          does_c ⟨xq, xa, xb', xv, xt, xl⟩ lv M L mb bb xb (xb + 1) wr (x6.below hBr) (fun h g' hg' => ⟨by have := x7 h g' hg'; omega, by have := x7 h g' hg'; omega, by have := x7 h g' hg'; omega⟩) HT.out HS0.out (by have := HLl.out; omega) hbk)
        have hx_0 := kc hBr x0
        have hx_1 := kc hBr x1
        have hx_2 := kc hBr x2
        have hx_3 := kc hBr x3
        have hx_4 := kc hBr x4
        have hx_5 := kc hBr x5
        have hin : (0 : Int) ≤ (k : Int) ∧ (k : Int) < (n : Int) := by omega
        have hw1 : IntKind.i64.wrap ((k : Int) + 1) = (k : Int) + 1 := IntWalk.i64_in _ (by omega)
        clear hcc x0 x1 x2 x3 x4 x5 x6 x7 hbk
        go_wp2_with fail
        refine (HD.out).mono ?_
        rintro _ u ⟨rfl, M', L', hT', hF', hL'⟩
        have HREL := Lib.hid (show ∃ M L, Two mb bb xb (xb + 1) u M L ∧ Fr bb xb (xb + 1) W0 u ∧ L.length ≤ 61 * (k + 1) from ⟨M', L', hT', HFr.out.trans hF', by have := HLl.out; omega⟩)
        clear hT' hF' hL'
        go_wp2
        go_roundw
        case rel => exact ⟨k + 1, by omega, by go_num, HREL⟩
        case measure => simp [intOf] <;> omega
      · have hd : decide ((k : Int) < (n : Int)) = false := decide_eq_false (by omega)
        have hLb : L.length ≤ 5000 := by have := HLl.out; omega
        obtain ⟨vr, hvr⟩ := HT.out.rm
        have hown := HoldsE.own pt_len hvr.ow
        have HO := Lib.hid hown
        have hx_0 := hvr.c0
        obtain ⟨rp, rc, rfl⟩ := own_form hvr.ow
        obtain ⟨n2, hn2⟩ : ∃ n, L.length = n := ⟨_, rfl⟩
        have HN2 := Lib.hid hn2
        have HVR := Lib.hid hvr
        rw [hn2] at hx_0 hLb
        have hREAL := Lib.hid HT.out.good.real
        have HC1 := Lib.hid (fun W (hb : Below wr.heap.size wr W) a => readp_c M a mb bb W (HT.out.pm.below hb) (HT.out.laid.below hb))
        have HC2 := Lib.hid (fun W (hb : Below wr.heap.size wr W) a => readr_c L (by have := HN2.out; omega) a xb (xb + 1) _ W (HVR.out.on hb))
        have HE := Lib.hid (fun a => read_both HT.out.good a)
        have hxw : xb < wr.heap.size := klt hx_0
        clear hvr hown hn2
        obtain ⟨wo, hwo⟩ : ∃ W, W = wr := ⟨_, rfl⟩
        rw [← hwo] at hx_0 HO HVR HC1 HC2 hxw hBr HT HFr ⊢
        clear hwo
        go_wp2_with fail
        go_loopw [6] (fun s6 wr => ∃ i : Nat, i ≤ n2 ∧ s6 = .int .i64 i ∧ Below wo.heap.size wo wr) (fun i _ => n2 - (intOf i).toNat)
        case atStart => exact ⟨0, Nat.zero_le _, rfl, Below.refl _ _⟩
        case round =>
          obtain ⟨i, hi, rfl, hB6⟩ := hrel
          have hxr := kc hB6 hx_0
          by_cases hlt3 : i < n2
          · have hd2 : decide ((i : Int) < (n2 : Int)) = true := decide_eq_true (by omega)
            have hli : i < L.length := by rw [HN2.out]; exact hlt3
            obtain ⟨g2, o2, cap2, e2, hcap2, hc2⟩ := HO.out.some (by omega)
            obtain ⟨rfl, n3, rfl⟩ := Value.slice.inj e2
            clear e2 n3
            have hx := List.getElem?_eq_getElem hli
            have hre := hREAL.out L[i] (List.getElem_mem hli)
            generalize L[i] = x at hx hre
            obtain ⟨p0, p1, p2⟩ := get3p hc2 hx
            obtain ⟨pa, pv, pt⟩ := x
            dsimp only at p0 p1 p2 hre
            have hpa : 0 ≤ pa ∧ pa < 65536 := by unfold realB ramB romB at hre; simp at hre; omega
            have hg2 : g2 < wo.heap.size := klt p0
            have hin2 : (0 : Int) ≤ (i : Int) ∧ (i : Int) < (n2 : Int) := by omega
            have hw2 : IntKind.i64.wrap ((i : Int) + 1) = (i : Int) + 1 := IntWalk.i64_in _ (by omega)
            clear hc2 hx hre p1 p2
            obtain ⟨wq, hwq⟩ : ∃ W, W = wr := ⟨_, rfl⟩
            rw [← hwq] at hB6 hxr ⊢
            clear hwq
            go_wp2_with fail
            go_loopw [7] (fun s7 wr => ∃ j : Int, (-1 ≤ j ∧ j ≤ 2) ∧ s7 = .int .i64 j ∧ Below wo.heap.size wo wr) (fun i _ => (2 - intOf i).toNat)
            case atStart => exact ⟨-1, by omega, rfl, hB6⟩
            case round =>
              obtain ⟨j, hj, rfl, hB7⟩ := hrel
              by_cases hlt4 : j < 2
              · have hd3 : decide (j < 2) = true := decide_eq_true hlt4
                have hw3 : IntKind.i64.wrap (j + 1) = j + 1 := IntWalk.i64_in _ (by omega)
                have hw4 : IntKind.i64.wrap (pa + j) = pa + j := IntWalk.i64_in _ (by omega)
                have hq0 := kc hB7 p0
                have hxq := kc hB7 hx_0
                have hg2r : g2 < wr.heap.size := klt hq0
                have hxwr : xb < wr.heap.size := klt hxq
                obtain ⟨⟨rv, rt, re⟩, hR⟩ : ∃ R, readP L (pa + j) = R := ⟨_, rfl⟩
                have HD1 := Lib.hid (fun W (hb : Below wo.heap.size wo W) => HC1.out W hb (pa + j))
                have HD2 := Lib.hid (fun W (hb : Below wo.heap.size wo W) => HC2.out W hb (pa + j))
                rw [HE.out, hR] at HD1
                rw [hR] at HD2
                dsimp only at HD1 HD2
                clear hR
                have hB : Below wo.heap.size wo wr := hB7
                have hsz := hB.size
                have hpp_0 := hq0
                have hxx_0 := hxq
                go_wp2_with fail
                ((with_reducible refine (HD1.out _ (by go_grown)).mono ?_); rintro _ u1 ⟨rfl, hb⟩)
                have T : u1.cell? ⟨g2, o2 + i * 3, none⟩ = some (.int .i64 pa) ∧ u1.cell? ⟨xb, 0, none⟩ = some (.slice (some ⟨g2, o2, none⟩) n2 rc) := by
                    refine ⟨?_, ?_⟩ <;> refine kc hb ?_ <;> (go_simp; first | done | rfl)
                have hz := hb.size
                (try simp only [World.size_alloc, World.size_setCell, World.size_drew] at hz)
                have L : g2 < u1.heap.size ∧ xb < u1.heap.size := by omega
                have hB' : Below wo.heap.size wo u1 := by
                    refine kb ?_ hb
                    go_grown
                clear hB hsz
                clear hb hz
                obtain ⟨hpp_0, hxx_0⟩ := T
                obtain ⟨hlpp, hlxx⟩ := L
                obtain ⟨hnpp0, hnpp1, hkpp1, hnpp2, hkpp2⟩ := ap0 hlpp
                obtain ⟨hnxx0, hnxx1, hkxx1, hnxx2, hkxx2⟩ := ap0 hlxx
                have hB := hB'; clear hB'
                have hsz := hB.size
                go_wp2_with fail
                ((with_reducible refine (HD2.out _ (by go_grown)).mono ?_); rintro _ u3 ⟨rfl, hb⟩)
                have T : u3.cell? ⟨g2, o2 + i * 3, none⟩ = some (.int .i64 pa) ∧ u3.cell? ⟨xb, 0, none⟩ = some (.slice (some ⟨g2, o2, none⟩) n2 rc) ∧ CC u3 u1.heap.size 0 1 (.int .u8 rv) (.int .u8 rt) := by
                    refine ⟨?_, ?_, ⟨?_, ?_⟩⟩ <;> refine kc hb ?_ <;> (go_simp; first | done | rfl)
                have hz := hb.size
                (try simp only [World.size_alloc, World.size_setCell, World.size_drew] at hz)
                have L : g2 < u3.heap.size ∧ xb < u3.heap.size ∧ u1.heap.size < u3.heap.size := by omega
                have hB' : Below wo.heap.size wo u3 := by
                    refine kb ?_ hb
                    go_grown
                clear hpp_0 hxx_0 hlpp hlxx hnpp0 hnpp1 hkpp1 hnpp2 hkpp2 hnxx0 hnxx1 hkxx1 hnxx2 hkxx2 hB hsz
                clear hb hz
                obtain ⟨hpp_0, hxx_0, ⟨hc_0, hc_1⟩⟩ := T
                obtain ⟨hlpp, hlxx, hlc⟩ := L
                obtain ⟨hnpp0, hnpp1, hkpp1, hnpp2, hkpp2⟩ := ap0 hlpp
                obtain ⟨hnxx0, hnxx1, hkxx1, hnxx2, hkxx2⟩ := ap0 hlxx
                obtain ⟨hnc0, hnc1, hkc1, hnc2, hkc2⟩ := ap0 hlc
                have hB := hB'; clear hB'
                have hsz := hB.size
                go_wp2_with fail
                go_roundw
                case rel => exact ⟨j + 1, by omega, by go_num, by go_grown⟩
                case measure => simp [intOf] <;> omega
              · have hd3 : decide (j < 2) = false := decide_eq_false hlt4
                go_wp2
                go_roundw
                case rel => exact ⟨i + 1, by omega, by go_num, hB7⟩
                case measure => simp [intOf] <;> omega
          · have hd2 : decide ((i : Int) < (n2 : Int)) = false := decide_eq_false (by omega)
            have hBf : Below w.heap.size w wr := kb hBr hB6
            go_wp2_with fail
            refine (HA.out _ hBf).mono ?_
            rintro _ uu ⟨rfl, hbu⟩
            have HBU := Lib.hid (kb hBf hbu)
            clear hbu
            go_wp2
            go_ret
            exact ⟨rfl, HBU.out⟩
end Go.Proofs.YtoakgchfdihjbaaDoor
