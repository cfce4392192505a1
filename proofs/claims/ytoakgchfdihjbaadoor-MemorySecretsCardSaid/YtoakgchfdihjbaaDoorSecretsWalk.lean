/-
  MemorySecrets: its walk.
-/
import Derived.Test.YtoakgchfdihjbaaDoorRange8
import Derived.Test.YtoakgchfdihjbaaDoorPlanI
set_option linter.unusedSimpArgs false
set_option linter.unusedVariables false
namespace Go.Proofs.YtoakgchfdihjbaaDoor
open Go.RowKit Go.PlainAid Go.Shelf
attribute [local go_sem] Oper.semAt_some

set_option maxRecDepth 100000 in
set_option maxHeartbeats 16000000 in
theorem secrets_in (l : List OpR) (v : Value) (a bv bt : Int) (w : World) (hv : HoldsO w.heap.size w v l) (hl : l.length ≤ 9223372036854775807) (hL : Laid w) :
    CallsIn Fence.wide 4 Tryd.prog 4 #[v, .int .i64 a, .agg #[.int .u8 bv, .int .u8 bt]] w (LawEnd w) := by
  have hlt := hL.lt
  have HA := Lib.hid (fun W (h : Below w.heap.size w W) => awake_c W (hL.below h))
  have HLd := Lib.hid (fun W (h : Below w.heap.size w W) => hL.below h)
  have HV := Lib.hid hv
  have HF := Lib.hid (fun W (h : Below w.heap.size w W) => few_c w.heap.size l hl v W (hv.below h))
  have HFA := Lib.hid (show fewO l = true → _ from few_all2 (l := l))
  obtain ⟨lp, lc, rfl⟩ := hv.form
  obtain ⟨n, hn⟩ : ∃ n, l.length = n := ⟨_, rfl⟩
  have HN := Lib.hid hn
  rw [hn] at HF hl ⊢
  clear hv hn hL
  generalize fewO l = F at *
  refine callsIn_of_wp_marks Tryd.func4 rfl trivial ?_ rfl
  simp only [Tryd.ntmps4, List.size_toArray, List.length_cons, List.length_nil, Nat.reduceAdd, Nat.reduceSub, Array.replicate_succ, Array.replicate_zero, List.push_toArray, List.append_toArray, List.nil_append, List.cons_append]
  refine wpIn_wide.2 ?_
  go_wp2_with fail
  ((with_reducible refine (new_x _ (by simp)).mono ?_); rintro _ u1 ⟨mb, bb, rfl, hb, hP, hmb, hbb⟩)
  have hs_u1 := Lib.hid hb
  have T : CC u1 w.heap.size 0 1 (.int .u8 bv) (.int .u8 bt) ∧ CF u1 (w.heap.size + 1) 0 (.bool false) := by
      refine ⟨⟨?_, ?_⟩, ⟨?_, ?_⟩⟩ <;> first | (refine kc hb ?_ <;> (go_simp; first | done | rfl)) | (refine kfz hb ?_ ?_ <;> first | (go_size; done) | (go_simp; done))
  have hz := hb.size
  (try simp only [World.size_alloc, World.size_setCell, World.size_drew] at hz)
  have L : w.heap.size < u1.heap.size ∧ w.heap.size + 1 < u1.heap.size := by omega
  have hB' : Below w.heap.size w u1 := by
      refine kb ?_ hb
      go_grown
  clear hb hz
  obtain ⟨⟨hb_0, hb_1⟩, ⟨hr_0, fr_0⟩⟩ := T
  obtain ⟨hlb, hlr⟩ := L
  obtain ⟨hnb0, hnb1, hkb1, hnb2, hkb2⟩ := ap0 hlb
  obtain ⟨hnr0, hkr1⟩ := ap1 hlr
  have hB := hB'; clear hB'
  have hsz := hB.size
  have HP1 := Lib.hid hP
  simp only [World.size_alloc] at hmb hbb
  have hz1 : mb < u1.heap.size ∧ bb < u1.heap.size := ⟨klt hP.c0, hP.lt⟩
  clear hP
  go_wp2_with fail
  ((with_reducible refine (HF.out _ hB).mono ?_); rintro _ u2 ⟨rfl, hb⟩)
  have hs_u2 := Lib.hid hb
  have T : CC u2 w.heap.size 0 1 (.int .u8 bv) (.int .u8 bt) ∧ CF u2 (w.heap.size + 1) 0 (.bool false) := by
      refine ⟨⟨?_, ?_⟩, ⟨?_, ?_⟩⟩ <;> first | (refine kc hb ?_ <;> (go_simp; first | done | rfl)) | (refine kfz hb ?_ ?_ <;> first | (go_size; done) | (go_simp; done))
  have hz := hb.size
  (try simp only [World.size_alloc, World.size_setCell, World.size_drew] at hz)
  have L : w.heap.size < u2.heap.size ∧ w.heap.size + 1 < u2.heap.size := by omega
  have hB' : Below w.heap.size w u2 := by
      refine kb ?_ hb
      go_grown
  clear hb_0 hb_1 hr_0 fr_0 hlb hlr hnb0 hnb1 hkb1 hnb2 hkb2 hnr0 hkr1 hB hsz
  clear hb hz
  obtain ⟨⟨hb_0, hb_1⟩, ⟨hr_0, fr_0⟩⟩ := T
  obtain ⟨hlb, hlr⟩ := L
  obtain ⟨hnb0, hnb1, hkb1, hnb2, hkb2⟩ := ap0 hlb
  obtain ⟨hnr0, hkr1⟩ := ap1 hlr
  have hB := hB'; clear hB'
  have hsz := hB.size
  have HP2 := Lib.hid (HP1.out.below hs_u2.out)
  have hz2 := hs_u2.out.size
  clear HP1
  cases F
  · go_wp2_with fail
    ((with_reducible refine (HA.out _ hB).mono ?_); rintro _ u3 ⟨rfl, hb⟩)
    have T : CF u3 (w.heap.size + 1) 0 (.bool false) := by
        refine ⟨?_, ?_⟩ <;> first | (refine kc hb ?_ <;> (go_simp; first | done | rfl)) | (refine kfz hb ?_ ?_ <;> first | (go_size; done) | (go_simp; done))
    have hz := hb.size
    (try simp only [World.size_alloc, World.size_setCell, World.size_drew] at hz)
    have L : w.heap.size + 1 < u3.heap.size := by omega
    have hB' : Below w.heap.size w u3 := by
        refine kb ?_ hb
        go_grown
    clear hb_0 hb_1 hr_0 fr_0 hlb hlr hnb0 hnb1 hkb1 hnb2 hkb2 hnr0 hkr1 hB hsz
    clear hb hz
    obtain ⟨hr_0, fr_0⟩ := T
    have hlr := L; clear L
    obtain ⟨hnr0, hnr1, hkr1, hnr2, hkr2⟩ := ap1f hlr
    have hB := hB'; clear hB'
    have hsz := hB.size
    go_wp2
    refine ⟨.bool true, ?_, rfl, hB.setCell (p := ⟨w.heap.size + 1, 0, none⟩) (by simp) _⟩
    have d3 : (u3.setCell ⟨w.heap.size + 1, 0, none⟩ (.bool true)).cell? ⟨w.heap.size + 1, 0, none⟩ = some (.bool true) := by go_simp
    simp [results, Tryd.results4, go_sem, d3]
  · obtain ⟨hn30, hbig⟩ := HFA.out rfl
    rw [HN.out] at hn30
    have HBIG := Lib.hid hbig
    clear hbig
    go_wp2_with fail
    have hxp0 : ((u2.alloc (.cells #[.slice none 0 0] 30)).alloc (.cells #[.pointer (some ⟨u2.heap.size, 0, none⟩)] 27)).cell? ⟨u2.heap.size + 1, 0, none⟩ = some (.pointer (some ⟨u2.heap.size, 0, none⟩)) := by go_simp
    have hzz : mb < u2.heap.size ∧ bb < u2.heap.size := by omega
    obtain ⟨W0, hW0⟩ : ∃ W, (u2.alloc (.cells #[.slice none 0 0] 30)).alloc (.cells #[.pointer (some ⟨u2.heap.size, 0, none⟩)] 27) = W := ⟨_, rfl⟩
    have hBW : Below u2.heap.size u2 W0 := by rw [← hW0]; exact ((Below.refl _ _).alloc (Nat.le_refl _) _).alloc (by simp) _
    have hT0 : Two mb bb u2.heap.size (u2.heap.size + 1 + 1) W0 zeroM [] := by
      have hL0 := (HLd.out u2 hB).below hBW
      have hP0 := HP2.out.below hBW
      rw [← hW0] at hL0 hP0 ⊢
      exact ⟨hP0, ⟨_, rm_new2 u2 _⟩, good_zero, hL0⟩
    have hS0 : Spots mb bb u2.heap.size (u2.heap.size + 1 + 1) := ⟨by omega, by omega, by omega, by omega, by omega⟩
    rw [hW0] at hxp0
    have HX0 := Lib.hid hxp0
    have HT0 := Lib.hid hT0
    have HS0 := Lib.hid hS0
    have HB0 := Lib.hid (show Below w.heap.size w W0 from kb hB hBW)
    have HC0 := Lib.hid (And.intro (kc hBW hb_0) (And.intro (kc hBW hb_1) (And.intro (kc hBW hr_0) (kfz hBW hlr fr_0))))
    have hzx : w.heap.size + 1 + 1 ≤ u2.heap.size := by omega
    rw [hW0]
    clear hW0 hT0 hS0 hBW HP2 hs_u2 hz2 hz1 hs_u1 hxp0
    generalize u2.heap.size = xb at *
    go_loopw [9] (fun s9 wr => ∃ k : Nat, k ≤ n ∧ s9 = .int .i64 k ∧ Hid (∃ M L, Two mb bb xb (xb + 1 + 1) wr M L ∧ Fr bb xb (xb + 1 + 1) W0 wr ∧ L.length ≤ 61 * k)) (fun i _ => n - (intOf i).toNat)
    case atStart => exact ⟨0, Nat.zero_le _, rfl, Lib.hid ⟨zeroM, [], HT0.out, Fr.refl _ _ _ _, by simp⟩⟩
    case round =>
      obtain ⟨k, hk, rfl, HR⟩ := hrel
      obtain ⟨M, L, hT, hF, hLl⟩ := HR.out
      have hBr : Below w.heap.size w wr := hF.below HB0.out (by omega) (by omega) (by omega)
      have hxp_0 := hF.cell (by omega) (by omega) (by omega) HX0.out
      have HT := Lib.hid hT
      have HFr := Lib.hid hF
      have HLl := Lib.hid hLl
      clear hT hF hLl HR
      by_cases hlt2 : k < n
      · have hd : decide ((k : Int) < (n : Int)) = true := decide_eq_true (by omega)
        have hlk : k < l.length := by rw [HN.out]; exact hlt2
        rcases HV.out with ⟨_, e⟩ | ⟨g, o, cap, e1, hcap, hgN, hcc⟩
        · subst e; exact absurd hlk (by simp)
        obtain ⟨rfl, n1, rfl⟩ := Value.slice.inj e1
        clear e1 n1
        obtain ⟨lv, x0, x1, x2, x3, x4, x5, x6, x7⟩ := hcc k _ (List.getElem?_eq_getElem hlk)
        have hbk := HBIG.out l[k] (List.getElem_mem hlk)
        generalize l[k] = x at *
        obtain ⟨xq, xa, xb', xv, xt, xl⟩ := x
        dsimp only at x0 x1 x2 x3 x4 x5 x6 x7
        have hS : ∀ W, Below wr.heap.size wr W → Calls Tryd.prog 11 #[.pointer (some ⟨mb, 0, none⟩), .pointer (some ⟨xb, 0, none⟩), .agg #[.int .i64 xq, .int .i64 xa, .int .i64 xb', .int .u8 xv, .int .u8 xt, lv]] W (DoesEnd mb bb xb (xb + 1 + 1) W L.length) := fun W hb =>
          does_c ⟨xq, xa, xb', xv, xt, xl⟩ lv M L mb bb xb (xb + 1 + 1) W (x6.below (kb hBr hb)) (fun h g' hg' => ⟨by have := x7 h g' hg'; omega, by have := x7 h g' hg'; omega, by have := x7 h g' hg'; omega⟩) (HT.out.below hb) HS0.out (by have := HLl.out; omega) hbk
        have HD := Lib.hid hS
        have hx_0 := kc hBr x0
        have hx_1 := kc hBr x1
        have hx_2 := kc hBr x2
        have hx_3 := kc hBr x3
        have hx_4 := kc hBr x4
        have hx_5 := kc hBr x5
        have hin : (0 : Int) ≤ (k : Int) ∧ (k : Int) < (n : Int) := by omega
        have hw1 : IntKind.i64.wrap ((k : Int) + 1) = (k : Int) + 1 := IntWalk.i64_in _ (by omega)
        have hB : Below wr.heap.size wr wr := Below.refl _ _
        have hsz := hB.size
        clear hcc x0 x1 x2 x3 x4 x5 x6 x7 hbk hS
        go_wp2_with fail
        refine wp_region_planT 6 (fun w' => w'.cell? ⟨xb + 1, 0, none⟩ = some (.pointer (some ⟨xb, 0, none⟩)) ∧ w'.cell? ⟨g, o + k * 6, none⟩ = some (.int .i64 xq) ∧ w'.cell? ⟨g, o + k * 6 + 1, none⟩ = some (.int .i64 xa) ∧ w'.cell? ⟨g, o + k * 6 + 2, none⟩ = some (.int .i64 xb') ∧ w'.cell? ⟨g, o + k * 6 + 3, none⟩ = some (.int .u8 xv) ∧ w'.cell? ⟨g, o + k * 6 + 4, none⟩ = some (.int .u8 xt) ∧ w'.cell? ⟨g, o + k * 6 + 5, none⟩ = some (lv) ∧ Below wr.heap.size wr w') (by kernel_rfl) (by kernel_rfl) (by kernel_rfl) (by kernel_rfl) ?_ ?_
        · (try dsimp only)
          refine ⟨?_, ?_, ?_, ?_, ?_, ?_, ?_, ?_⟩ <;> first | (go_simp; done) | (simp [*]; done) | go_grown
        (try simp only [List.append_eq, List.cons_append, List.nil_append, List.toList_toArray, List.take_succ_cons, List.take_zero, List.drop_succ_cons, List.drop_zero])
        repeat (first
          | (refine Plan.val (v := ?_) ?_ ?_ ?_; rotate_left; (· rfl); (· (intro W hSw; (try dsimp only at hSw); go_simp; all_goals (first | (with_reducible rfl) | (constructor <;> (with_reducible rfl)) | (rw [if_neg (by omega)]; done) | (rw [if_neg (by omega)]; with_reducible rfl)))); (try simp only [Act.put, List.setIfInBounds_toArray, List.set_cons_zero, List.set_cons_succ]))
          | (refine Plan.no ?_ ?_; (· rfl); (try simp only [Act.put, List.setIfInBounds_toArray, List.set_cons_zero, List.set_cons_succ])))
        refine Plan.done ?_
        intro u3 T
        (try dsimp only at T)
        clear hb_0 hb_1 hr_0 fr_0 hlb hlr hnb0 hnb1 hkb1 hnb2 hkb2 hnr0 hkr1 hB hsz
        obtain ⟨hxp_0, hx_0, hx_1, hx_2, hx_3, hx_4, hx_5, hB⟩ := T
        have hsz := hB.size
        have hlxp := klt hxp_0
        have hlx := klt hx_0
        obtain ⟨hnxp0, hnxp1, hkxp1, hnxp2, hkxp2⟩ := ap1f hlxp
        obtain ⟨hnx0, hnx1, hkx1, hnx2, hkx2⟩ := ap0 hlx
        have hBu := hB
        go_wp2_with fail
        refine (HD.out _ hBu).mono ?_
        rintro _ u ⟨rfl, M', L', hT', hF', hL'⟩
        have HREL := Lib.hid (show ∃ M L, Two mb bb xb (xb + 1 + 1) u M L ∧ Fr bb xb (xb + 1 + 1) W0 u ∧ L.length ≤ 61 * (k + 1) from ⟨M', L', hT', (HFr.out.trans (Fr.of_below hBu HT.out.size)).trans hF', by have := HLl.out; omega⟩)
        clear hT' hF' hL'
        go_wp2
        go_roundw
        case rel => exact ⟨k + 1, by omega, by go_num, HREL⟩
        case measure => simp [intOf] <;> omega
      · have hd : decide ((k : Int) < (n : Int)) = false := decide_eq_false (by omega)
        have hLb : L.length ≤ 5000 := by have := HLl.out; omega
        have hb_0 := HFr.out.cell (b := w.heap.size) (o := 0) (by omega) (by omega) (by omega) HC0.out.1
        have hb_1 := HFr.out.cell (b := w.heap.size) (o := 1) (by omega) (by omega) (by omega) HC0.out.2.1
        have hr_0 := HFr.out.cell (b := w.heap.size + 1) (o := 0) (by omega) (by omega) (by omega) HC0.out.2.2.1
        have fr_0 := HFr.out.frozen (b := w.heap.size + 1) (o := 0) (by omega) (by omega) (by omega) HC0.out.2.2.2
        have HBW := Lib.hid hBr
        have hzw : xb + 1 + 1 ≤ wr.heap.size := HT.out.size
        obtain ⟨vr, hvr⟩ := HT.out.rm
        have HVR := Lib.hid hvr
        obtain ⟨rp, rc, rfl⟩ := own_form hvr.ow
        have HRM := Lib.hid (fun W (hb : Below wr.heap.size wr W) => (HVR.out.on hb))
        have HMODE := Lib.hid (sec_mode HT.out.good a bv bt)
        obtain ⟨⟨av, at_⟩, hat⟩ : ∃ A, atP L a = A := ⟨_, rfl⟩
        rw [hat] at HMODE
        have HAT := Lib.hid (fun W (hb : Below wr.heap.size wr W) => atr_c L (by omega) a xb (xb + 1 + 1) _ W (HRM.out W hb))
        rw [hat] at HAT
        dsimp only at HAT
        clear hat hvr
        have HWR := Lib.hid (fun W nb nbb (hP : Pm nb nbb W M) (hL : Laid W) => writep_c M a bv bt nb nbb W hP hL)
        have HSM := Lib.hid (fun W nb nbb (hP : Pm mb bb W M) (hQ : Pm nb nbb W (writeM M a bv bt).2) => samep_c M (writeM M a bv bt).2 mb bb nb nbb W hP hQ)
        have HSR := Lib.hid (fun W nb nbb (hP : Pm mb bb W M) (hQ : Pm nb nbb W M) => samep_c M M mb bb nb nbb W hP hQ)
        rw [sameM_refl] at HSR
        have HTS := Lib.hid (fun W => taints_c av at_ bv bt W)
        have HRB := Lib.hid (fun W => ramr_c a W)
        generalize ramB a = RB at *
        generalize (writeM M a bv bt).1 = E at *
        generalize (writeM M a bv bt).2 = N at *
        generalize sameM M N = SM at *
        generalize sameI (av, at_) (bv, bt) = TM at *
        obtain ⟨wo, hwo⟩ : ∃ W, W = wr := ⟨_, rfl⟩
        rw [← hwo] at HT HFr hBr hxp_0 hb_0 hb_1 hr_0 fr_0 HVR HRM HAT HBW hzw ⊢
        clear hwo hBr
        have hB : Below wo.heap.size wo wo := Below.refl _ _
        have hsz := hB.size
        have hmo : mb < wo.heap.size ∧ bb < wo.heap.size := ⟨klt HT.out.pm.c0, HT.out.pm.lt⟩
        go_wp2_with fail
        ((with_reducible refine (secretp_c M mb bb _ (HT.out.pm.below (by go_grown))).mono ?_); rintro _ v1 ⟨B, cb, cbb, rfl, hb, hBc, hPc, hB1, hB2, hB3⟩)
        have hs_v1 := Lib.hid hb
        have T : CC v1 w.heap.size 0 1 (.int .u8 bv) (.int .u8 bt) ∧ CF v1 (w.heap.size + 1) 0 (.bool false) ∧ v1.cell? ⟨xb + 1, 0, none⟩ = some (.pointer (some ⟨xb, 0, none⟩)) := by
            refine ⟨⟨?_, ?_⟩, ⟨?_, ?_⟩, ?_⟩ <;> first | (refine kc hb ?_ <;> (go_simp; first | done | rfl)) | (refine kfz hb ?_ ?_ <;> first | (go_size; done) | (go_simp; done))
        have hz := hb.size
        (try simp only [World.size_alloc, World.size_setCell, World.size_drew] at hz)
        have L : w.heap.size < v1.heap.size ∧ w.heap.size + 1 < v1.heap.size ∧ xb + 1 < v1.heap.size := by omega
        have hB' : Below wo.heap.size wo v1 := by
            refine kb ?_ hb
            go_grown
        clear hb_0 hb_1 hr_0 fr_0 hlb hlr hnb0 hnb1 hkb1 hnb2 hkb2 hnr0 hkr1 hB hsz
        clear hb hz
        obtain ⟨⟨hb_0, hb_1⟩, ⟨hr_0, fr_0⟩, hxp_0⟩ := T
        obtain ⟨hlb, hlr, hlxp⟩ := L
        obtain ⟨hnb0, hnb1, hkb1, hnb2, hkb2⟩ := ap0 hlb
        obtain ⟨hnr0, hkr1⟩ := ap1 hlr
        obtain ⟨hnxp0, hnxp1, hkxp1, hnxp2, hkxp2⟩ := ap1f hlxp
        have hB := hB'; clear hB'
        have hsz := hB.size
        have HBc := Lib.hid hBc
        have HPc := Lib.hid hPc
        have hv1 : B < v1.heap.size ∧ cb < v1.heap.size ∧ cbb < v1.heap.size := ⟨klt hBc, klt hPc.c0, hPc.lt⟩
        clear hBc hPc
        go_wp2_with fail
        ((with_reducible refine (clone_x M mb bb _ (HT.out.pm.below (by go_grown))).mono ?_); rintro _ v2 ⟨nb, nbb, rfl, hb, hPn, hnb, hnbb⟩)
        have hs_v2 := Lib.hid hb
        have T : CC v2 w.heap.size 0 1 (.int .u8 bv) (.int .u8 bt) ∧ CF v2 (w.heap.size + 1) 0 (.bool false) ∧ v2.cell? ⟨xb + 1, 0, none⟩ = some (.pointer (some ⟨xb, 0, none⟩)) := by
            refine ⟨⟨?_, ?_⟩, ⟨?_, ?_⟩, ?_⟩ <;> first | (refine kc hb ?_ <;> (go_simp; first | done | rfl)) | (refine kfz hb ?_ ?_ <;> first | (go_size; done) | (go_simp; done))
        have hz := hb.size
        (try simp only [World.size_alloc, World.size_setCell, World.size_drew] at hz)
        have L : w.heap.size < v2.heap.size ∧ w.heap.size + 1 < v2.heap.size ∧ xb + 1 < v2.heap.size := by omega
        have hB' : Below wo.heap.size wo v2 := by
            refine kb ?_ hb
            go_grown
        clear hb_0 hb_1 hr_0 fr_0 hxp_0 hlb hlr hlxp hnb0 hnb1 hkb1 hnb2 hkb2 hnr0 hkr1 hnxp0 hnxp1 hkxp1 hnxp2 hkxp2 hB hsz
        clear hb hz
        obtain ⟨⟨hb_0, hb_1⟩, ⟨hr_0, fr_0⟩, hxp_0⟩ := T
        obtain ⟨hlb, hlr, hlxp⟩ := L
        obtain ⟨hnb0, hnb1, hkb1, hnb2, hkb2⟩ := ap0 hlb
        obtain ⟨hnr0, hkr1⟩ := ap1 hlr
        obtain ⟨hnxp0, hnxp1, hkxp1, hnxp2, hkxp2⟩ := ap1f hlxp
        have hB := hB'; clear hB'
        have hsz := hB.size
        have HBc2 := Lib.hid (kc hs_v2.out HBc.out)
        have HPc2 := Lib.hid (HPc.out.below hs_v2.out)
        have HPn := Lib.hid hPn
        have hv2 : nb < v2.heap.size ∧ nbb < v2.heap.size ∧ v1.heap.size ≤ v2.heap.size := ⟨klt hPn.c0, hPn.lt, hs_v2.out.size⟩
        clear hPn HBc HPc
        have q0 := fun W => sec_not_nil2 B W
        unfold secF at q0 ⊢
        go_wp2_with fail
        ((with_reducible refine (HSR.out _ nb nbb (HT.out.pm.below (by go_grown)) HPn.out).mono ?_); rintro _ v3 ⟨rfl, hb⟩)
        have hs_v3 := Lib.hid hb
        have T : CC v3 w.heap.size 0 1 (.int .u8 bv) (.int .u8 bt) ∧ CF v3 (w.heap.size + 1) 0 (.bool false) ∧ v3.cell? ⟨xb + 1, 0, none⟩ = some (.pointer (some ⟨xb, 0, none⟩)) := by
            refine ⟨⟨?_, ?_⟩, ⟨?_, ?_⟩, ?_⟩ <;> first | (refine kc hb ?_ <;> (go_simp; first | done | rfl)) | (refine kfz hb ?_ ?_ <;> first | (go_size; done) | (go_simp; done))
        have hz := hb.size
        (try simp only [World.size_alloc, World.size_setCell, World.size_drew] at hz)
        have L : w.heap.size < v3.heap.size ∧ w.heap.size + 1 < v3.heap.size ∧ xb + 1 < v3.heap.size := by omega
        have hB' : Below wo.heap.size wo v3 := by
            refine kb ?_ hb
            go_grown
        clear hb_0 hb_1 hr_0 fr_0 hxp_0 hlb hlr hlxp hnb0 hnb1 hkb1 hnb2 hkb2 hnr0 hkr1 hnxp0 hnxp1 hkxp1 hnxp2 hkxp2 hB hsz
        clear hb hz
        obtain ⟨⟨hb_0, hb_1⟩, ⟨hr_0, fr_0⟩, hxp_0⟩ := T
        obtain ⟨hlb, hlr, hlxp⟩ := L
        obtain ⟨hnb0, hnb1, hkb1, hnb2, hkb2⟩ := ap0 hlb
        obtain ⟨hnr0, hkr1⟩ := ap1 hlr
        obtain ⟨hnxp0, hnxp1, hkxp1, hnxp2, hkxp2⟩ := ap1f hlxp
        have hB := hB'; clear hB'
        have hsz := hB.size
        have HBc3 := Lib.hid (kc hs_v3.out HBc2.out)
        have HPc3 := Lib.hid (HPc2.out.below hs_v3.out)
        have HPn3 := Lib.hid (HPn.out.below hs_v3.out)
        have hv3 := hs_v3.out.size
        clear HBc2 HPc2 HPn q0
        go_wp2_with fail
        ((with_reducible refine (HAT.out _ (by go_grown)).mono ?_); rintro _ v4 ⟨rfl, hb⟩)
        have hs_v4 := Lib.hid hb
        have T : CC v4 w.heap.size 0 1 (.int .u8 bv) (.int .u8 bt) ∧ CF v4 (w.heap.size + 1) 0 (.bool false) ∧ v4.cell? ⟨xb + 1, 0, none⟩ = some (.pointer (some ⟨xb, 0, none⟩)) := by
            refine ⟨⟨?_, ?_⟩, ⟨?_, ?_⟩, ?_⟩ <;> first | (refine kc hb ?_ <;> (go_simp; first | done | rfl)) | (refine kfz hb ?_ ?_ <;> first | (go_size; done) | (go_simp; done))
        have hz := hb.size
        (try simp only [World.size_alloc, World.size_setCell, World.size_drew] at hz)
        have L : w.heap.size < v4.heap.size ∧ w.heap.size + 1 < v4.heap.size ∧ xb + 1 < v4.heap.size := by omega
        have hB' : Below wo.heap.size wo v4 := by
            refine kb ?_ hb
            go_grown
        clear hb_0 hb_1 hr_0 fr_0 hxp_0 hlb hlr hlxp hnb0 hnb1 hkb1 hnb2 hkb2 hnr0 hkr1 hnxp0 hnxp1 hkxp1 hnxp2 hkxp2 hB hsz
        clear hb hz
        obtain ⟨⟨hb_0, hb_1⟩, ⟨hr_0, fr_0⟩, hxp_0⟩ := T
        obtain ⟨hlb, hlr, hlxp⟩ := L
        obtain ⟨hnb0, hnb1, hkb1, hnb2, hkb2⟩ := ap0 hlb
        obtain ⟨hnr0, hkr1⟩ := ap1 hlr
        obtain ⟨hnxp0, hnxp1, hkxp1, hnxp2, hkxp2⟩ := ap1f hlxp
        have hB := hB'; clear hB'
        have hsz := hB.size
        have HBc4 := Lib.hid (kc hs_v4.out HBc3.out)
        have HPc4 := Lib.hid (HPc3.out.below hs_v4.out)
        have HPn4 := Lib.hid (HPn3.out.below hs_v4.out)
        have hv4 := hs_v4.out.size
        clear HBc3 HPc3 HPn3
        have HLA := Lib.hid (fun W (hb : Below wo.heap.size wo W) => HT.out.laid.below hb)
        go_wp2_with fail
        ((with_reducible refine (HWR.out _ nb nbb (HPn4.out.below (by go_grown)) (HLA.out _ (by go_grown))).mono ?_); rintro _ v5 ⟨rfl, hb, hPn⟩)
        have hs_v5 := Lib.hid hb
        have T : CC v5 w.heap.size 0 1 (.int .u8 bv) (.int .u8 bt) ∧ CF v5 (w.heap.size + 1) 0 (.bool false) ∧ v5.cell? ⟨xb + 1, 0, none⟩ = some (.pointer (some ⟨xb, 0, none⟩)) ∧ CC v5 v4.heap.size 0 1 (.int .u8 av) (.int .u8 at_) := by
            refine ⟨⟨?_, ?_⟩, ⟨?_, ?_⟩, ?_, ⟨?_, ?_⟩⟩ <;> first | (refine kg hb ?_ ?_; (· omega); (· (go_simp; first | done | rfl))) | (refine kgf hb ?_ ?_ ?_; (· omega); (· first | go_size | omega | (simp only [World.size_alloc, World.size_setCell, World.size_drew]; omega)); (· (go_simp; first | done | rfl)))
        have hz := hb.size
        (try simp only [World.size_alloc, World.size_setCell, World.size_drew] at hz)
        have L : w.heap.size < v5.heap.size ∧ w.heap.size + 1 < v5.heap.size ∧ xb + 1 < v5.heap.size ∧ v4.heap.size < v5.heap.size := by omega
        have hB' : Below wo.heap.size wo v5 := by
            refine below_grown2 ?_ hb (by omega)
            go_grown
        clear hb_0 hb_1 hr_0 fr_0 hxp_0 hlb hlr hlxp hnb0 hnb1 hkb1 hnb2 hkb2 hnr0 hkr1 hnxp0 hnxp1 hkxp1 hnxp2 hkxp2 hB hsz
        clear hb hz
        obtain ⟨⟨hb_0, hb_1⟩, ⟨hr_0, fr_0⟩, hxp_0, ⟨hwb_0, hwb_1⟩⟩ := T
        obtain ⟨hlb, hlr, hlxp, hlwb⟩ := L
        obtain ⟨hnb0, hnb1, hkb1, hnb2, hkb2⟩ := ap0 hlb
        obtain ⟨hnr0, hkr1⟩ := ap1 hlr
        obtain ⟨hnxp0, hnxp1, hkxp1, hnxp2, hkxp2⟩ := ap1f hlxp
        obtain ⟨hnwb0, hnwb1, hkwb1, hnwb2, hkwb2⟩ := ap0 hlwb
        have hB := hB'; clear hB'
        have hsz := hB.size
        have HBc5 := Lib.hid (kg hs_v5.out (show B ≠ nbb by omega) (kc (W := v4) (by go_grown) HBc4.out))
        have HPc5 := Lib.hid ((HPc4.out.below (by go_grown)).other hs_v5.out (by omega) (by omega))
        have HPn5 := Lib.hid hPn
        have hv5 : v4.heap.size + 1 ≤ v5.heap.size := by have := hs_v5.out.size; simp at this; omega
        have HT5 := Lib.hid (HT.out.below hB)
        have HB5 := Lib.hid hB
        have HRM5 := Lib.hid (fun W (hb : Below v5.heap.size v5 W) => HRM.out W (kb HB5.out hb))
        clear hPn HBc4 HPc4 HPn4 hs_v1 hs_v2 hs_v3 hs_v4 hs_v5 HAT HWR HSR
        have hBo := hB
        clear hBo
        have hB : Below v5.heap.size v5 v5 := Below.refl _ _
        go_upto_region 16 with fail
        go_cut [87] from 73 to 88 (fun s87 wx => s87 = .bool false ∧ wx.cell? ⟨w.heap.size + 1, 0, none⟩ = some (.bool false) ∧ wx.frozen? ⟨w.heap.size + 1, 0, none⟩ = false ∧ wx.cell? ⟨xb + 1, 0, none⟩ = some (.pointer (some ⟨xb, 0, none⟩)) ∧ Below v5.heap.size v5 wx)
        case first =>
          have HS1 := Lib.hid (fun W (hb : Below v5.heap.size v5 W) => HSM.out W nb nbb (HT5.out.pm.below hb) (HPn5.out.below hb))
          rcases HMODE.out with hE | ⟨rfl, rfl⟩ | ⟨rfl, rfl, rfl⟩
          · skip
            refine wp_region_plan (fun w' => w'.cell? ⟨w.heap.size, 0, none⟩ = some (.int .u8 bv) ∧ w'.cell? ⟨w.heap.size, 1, none⟩ = some (.int .u8 bt) ∧ w'.cell? ⟨w.heap.size + 1, 0, none⟩ = some (.bool false) ∧ w'.frozen? ⟨w.heap.size + 1, 0, none⟩ = false ∧ w'.cell? ⟨xb + 1, 0, none⟩ = some (.pointer (some ⟨xb, 0, none⟩)) ∧ w'.cell? ⟨v4.heap.size, 0, none⟩ = some (.int .u8 av) ∧ w'.cell? ⟨v4.heap.size, 1, none⟩ = some (.int .u8 at_) ∧ Below v5.heap.size v5 w') (by kernel_rfl) (by kernel_rfl) (by kernel_rfl) ?_ ?_
            · (try dsimp only)
              refine ⟨?_, ?_, ?_, ?_, ?_, ?_, ?_, ?_⟩ <;> first | (go_simp; done) | (simp [*]; done) | go_grown
            repeat (first
              | (refine Plan.val (v := ?_) ?_ ?_ ?_; rotate_left; (· rfl); (· (intro W hSw; (try dsimp only at hSw); go_simp; all_goals (first | (with_reducible rfl) | (constructor <;> (with_reducible rfl)) | (rw [if_neg (by omega)]; done) | (rw [if_neg (by omega)]; with_reducible rfl)))); (try simp only [Act.put, List.setIfInBounds_toArray, List.set_cons_zero, List.set_cons_succ]))
              | (refine Plan.no ?_ ?_; (· rfl); (try simp only [Act.put, List.setIfInBounds_toArray, List.set_cons_zero, List.set_cons_succ]))
              | (refine Plan.call (v := ?_) (f := ?_) (args := ?_) ?_ ?_ ?_ ?_; rotate_left 3; (· rfl); (· (intro W hSw; (try dsimp only at hSw); go_simp; all_goals (first | (with_reducible rfl) | (constructor <;> (with_reducible rfl)) | (rw [if_neg (by omega)]; done) | (rw [if_neg (by omega)]; with_reducible rfl)))); (· (intro W hSw; (try dsimp only at hSw); first | (go_at_call 19; ((with_reducible refine (HRB.out _).mono ?_); rintro _ wz ⟨rfl, hb⟩; (refine ⟨?_, ?_⟩; (· with_reducible rfl); exact ⟨kc hb hSw.1, kc hb hSw.2.1, kc hb hSw.2.2.1, kfz hb (klt hSw.2.2.1) hSw.2.2.2.1, kc hb hSw.2.2.2.2.1, kc hb hSw.2.2.2.2.2.1, kc hb hSw.2.2.2.2.2.2.1, kb hSw.2.2.2.2.2.2.2 hb⟩))))); (try simp only [Act.put, List.setIfInBounds_toArray, List.set_cons_zero, List.set_cons_succ])))
            refine Plan.done ?_
            intro v6 T
            (try dsimp only at T)
            clear hb_0 hb_1 hr_0 fr_0 hxp_0 hwb_0 hwb_1 hlb hlr hlxp hlwb hnb0 hnb1 hkb1 hnb2 hkb2 hnr0 hkr1 hnxp0 hnxp1 hkxp1 hnxp2 hkxp2 hnwb0 hnwb1 hkwb1 hnwb2 hkwb2 hB hsz
            obtain ⟨hb_0, hb_1, hr_0, fr_0, hxp_0, hwb_0, hwb_1, hB⟩ := T
            have hsz := hB.size
            have hlb := klt hb_0
            have hlr := klt hr_0
            have hlxp := klt hxp_0
            have hlwb := klt hwb_0
            obtain ⟨hnb0, hnb1, hkb1, hnb2, hkb2⟩ := ap0 hlb
            obtain ⟨hnr0, hkr1⟩ := ap1 hlr
            obtain ⟨hnxp0, hnxp1, hkxp1, hnxp2, hkxp2⟩ := ap1f hlxp
            obtain ⟨hnwb0, hnwb1, hkwb1, hnwb2, hkwb2⟩ := ap0 hlwb
            go_wp2_with fail
            go_meet
            exact ⟨rfl, hr_0, fr_0, hxp_0, hB⟩
          · skip
            refine wp_region_plan (fun w' => w'.cell? ⟨w.heap.size, 0, none⟩ = some (.int .u8 bv) ∧ w'.cell? ⟨w.heap.size, 1, none⟩ = some (.int .u8 bt) ∧ w'.cell? ⟨w.heap.size + 1, 0, none⟩ = some (.bool false) ∧ w'.frozen? ⟨w.heap.size + 1, 0, none⟩ = false ∧ w'.cell? ⟨xb + 1, 0, none⟩ = some (.pointer (some ⟨xb, 0, none⟩)) ∧ w'.cell? ⟨v4.heap.size, 0, none⟩ = some (.int .u8 av) ∧ w'.cell? ⟨v4.heap.size, 1, none⟩ = some (.int .u8 at_) ∧ Below v5.heap.size v5 w') (by kernel_rfl) (by kernel_rfl) (by kernel_rfl) ?_ ?_
            · (try dsimp only)
              refine ⟨?_, ?_, ?_, ?_, ?_, ?_, ?_, ?_⟩ <;> first | (go_simp; done) | (simp [*]; done) | go_grown
            repeat (first
              | (refine Plan.val (v := ?_) ?_ ?_ ?_; rotate_left; (· rfl); (· (intro W hSw; (try dsimp only at hSw); go_simp; all_goals (first | (with_reducible rfl) | (constructor <;> (with_reducible rfl)) | (rw [if_neg (by omega)]; done) | (rw [if_neg (by omega)]; with_reducible rfl)))); (try simp only [Act.put, List.setIfInBounds_toArray, List.set_cons_zero, List.set_cons_succ]))
              | (refine Plan.no ?_ ?_; (· rfl); (try simp only [Act.put, List.setIfInBounds_toArray, List.set_cons_zero, List.set_cons_succ]))
              | (refine Plan.call (v := ?_) (f := ?_) (args := ?_) ?_ ?_ ?_ ?_; rotate_left 3; (· rfl); (· (intro W hSw; (try dsimp only at hSw); go_simp; all_goals (first | (with_reducible rfl) | (constructor <;> (with_reducible rfl)) | (rw [if_neg (by omega)]; done) | (rw [if_neg (by omega)]; with_reducible rfl)))); (· (intro W hSw; (try dsimp only at hSw); first | (go_at_call 19; ((with_reducible refine (HRB.out _).mono ?_); rintro _ wz ⟨rfl, hb⟩; (refine ⟨?_, ?_⟩; (· with_reducible rfl); exact ⟨kc hb hSw.1, kc hb hSw.2.1, kc hb hSw.2.2.1, kfz hb (klt hSw.2.2.1) hSw.2.2.2.1, kc hb hSw.2.2.2.2.1, kc hb hSw.2.2.2.2.2.1, kc hb hSw.2.2.2.2.2.2.1, kb hSw.2.2.2.2.2.2.2 hb⟩))))); (try simp only [Act.put, List.setIfInBounds_toArray, List.set_cons_zero, List.set_cons_succ])))
            refine Plan.done ?_
            intro v6 T
            (try dsimp only at T)
            clear hb_0 hb_1 hr_0 fr_0 hxp_0 hwb_0 hwb_1 hlb hlr hlxp hlwb hnb0 hnb1 hkb1 hnb2 hkb2 hnr0 hkr1 hnxp0 hnxp1 hkxp1 hnxp2 hkxp2 hnwb0 hnwb1 hkwb1 hnwb2 hkwb2 hB hsz
            obtain ⟨hb_0, hb_1, hr_0, fr_0, hxp_0, hwb_0, hwb_1, hB⟩ := T
            have hsz := hB.size
            have hlb := klt hb_0
            have hlr := klt hr_0
            have hlxp := klt hxp_0
            have hlwb := klt hwb_0
            obtain ⟨hnb0, hnb1, hkb1, hnb2, hkb2⟩ := ap0 hlb
            obtain ⟨hnr0, hkr1⟩ := ap1 hlr
            obtain ⟨hnxp0, hnxp1, hkxp1, hnxp2, hkxp2⟩ := ap1f hlxp
            obtain ⟨hnwb0, hnwb1, hkwb1, hnwb2, hkwb2⟩ := ap0 hlwb
            go_wp2_with fail
            go_meet
            exact ⟨rfl, hr_0, fr_0, hxp_0, hB⟩
          · skip
            refine wp_region_plan (fun w' => w'.cell? ⟨w.heap.size, 0, none⟩ = some (.int .u8 bv) ∧ w'.cell? ⟨w.heap.size, 1, none⟩ = some (.int .u8 bt) ∧ w'.cell? ⟨w.heap.size + 1, 0, none⟩ = some (.bool false) ∧ w'.frozen? ⟨w.heap.size + 1, 0, none⟩ = false ∧ w'.cell? ⟨xb + 1, 0, none⟩ = some (.pointer (some ⟨xb, 0, none⟩)) ∧ w'.cell? ⟨v4.heap.size, 0, none⟩ = some (.int .u8 av) ∧ w'.cell? ⟨v4.heap.size, 1, none⟩ = some (.int .u8 at_) ∧ Below v5.heap.size v5 w') (by kernel_rfl) (by kernel_rfl) (by kernel_rfl) ?_ ?_
            · (try dsimp only)
              refine ⟨?_, ?_, ?_, ?_, ?_, ?_, ?_, ?_⟩ <;> first | (go_simp; done) | (simp [*]; done) | go_grown
            repeat (first
              | (refine Plan.val (v := ?_) ?_ ?_ ?_; rotate_left; (· rfl); (· (intro W hSw; (try dsimp only at hSw); go_simp; all_goals (first | (with_reducible rfl) | (constructor <;> (with_reducible rfl)) | (rw [if_neg (by omega)]; done) | (rw [if_neg (by omega)]; with_reducible rfl)))); (try simp only [Act.put, List.setIfInBounds_toArray, List.set_cons_zero, List.set_cons_succ]))
              | (refine Plan.no ?_ ?_; (· rfl); (try simp only [Act.put, List.setIfInBounds_toArray, List.set_cons_zero, List.set_cons_succ]))
              | (refine Plan.call (v := ?_) (f := ?_) (args := ?_) ?_ ?_ ?_ ?_; rotate_left 3; (· rfl); (· (intro W hSw; (try dsimp only at hSw); go_simp; all_goals (first | (with_reducible rfl) | (constructor <;> (with_reducible rfl)) | (rw [if_neg (by omega)]; done) | (rw [if_neg (by omega)]; with_reducible rfl)))); (· (intro W hSw; (try dsimp only at hSw); first | (go_at_call 19; ((with_reducible refine (HRB.out _).mono ?_); rintro _ wz ⟨rfl, hb⟩; (refine ⟨?_, ?_⟩; (· with_reducible rfl); exact ⟨kc hb hSw.1, kc hb hSw.2.1, kc hb hSw.2.2.1, kfz hb (klt hSw.2.2.1) hSw.2.2.2.1, kc hb hSw.2.2.2.2.1, kc hb hSw.2.2.2.2.2.1, kc hb hSw.2.2.2.2.2.2.1, kb hSw.2.2.2.2.2.2.2 hb⟩))) | (go_at_call 16; ((with_reducible refine (HS1.out _ hSw.2.2.2.2.2.2.2).mono ?_); rintro _ wz ⟨rfl, hb⟩; (refine ⟨?_, ?_⟩; (· with_reducible rfl); exact ⟨kc hb hSw.1, kc hb hSw.2.1, kc hb hSw.2.2.1, kfz hb (klt hSw.2.2.1) hSw.2.2.2.1, kc hb hSw.2.2.2.2.1, kc hb hSw.2.2.2.2.2.1, kc hb hSw.2.2.2.2.2.2.1, kb hSw.2.2.2.2.2.2.2 hb⟩))) | (go_at_call 20; ((with_reducible refine (HTS.out _).mono ?_); rintro _ wz ⟨rfl, hb⟩; (refine ⟨?_, ?_⟩; (· with_reducible rfl); exact ⟨kc hb hSw.1, kc hb hSw.2.1, kc hb hSw.2.2.1, kfz hb (klt hSw.2.2.1) hSw.2.2.2.1, kc hb hSw.2.2.2.2.1, kc hb hSw.2.2.2.2.2.1, kc hb hSw.2.2.2.2.2.2.1, kb hSw.2.2.2.2.2.2.2 hb⟩))))); (try simp only [Act.put, List.setIfInBounds_toArray, List.set_cons_zero, List.set_cons_succ])))
            refine Plan.done ?_
            intro v6 T
            (try dsimp only at T)
            clear hb_0 hb_1 hr_0 fr_0 hxp_0 hwb_0 hwb_1 hlb hlr hlxp hlwb hnb0 hnb1 hkb1 hnb2 hkb2 hnr0 hkr1 hnxp0 hnxp1 hkxp1 hnxp2 hkxp2 hnwb0 hnwb1 hkwb1 hnwb2 hkwb2 hB hsz
            obtain ⟨hb_0, hb_1, hr_0, fr_0, hxp_0, hwb_0, hwb_1, hB⟩ := T
            have hsz := hB.size
            have hlb := klt hb_0
            have hlr := klt hr_0
            have hlxp := klt hxp_0
            have hlwb := klt hwb_0
            obtain ⟨hnb0, hnb1, hkb1, hnb2, hkb2⟩ := ap0 hlb
            obtain ⟨hnr0, hkr1⟩ := ap1 hlr
            obtain ⟨hnxp0, hnxp1, hkxp1, hnxp2, hkxp2⟩ := ap1f hlxp
            obtain ⟨hnwb0, hnwb1, hkwb1, hnwb2, hkwb2⟩ := ap0 hlwb
            go_wp2_with fail
            go_meet
            exact ⟨rfl, hr_0, fr_0, hxp_0, hB⟩
        case rest =>
          obtain ⟨wd, hwd⟩ : ∃ W, W = wc := ⟨_, rfl⟩
          rw [← hwd] at hcut ⊢
          clear hwd
          obtain ⟨rfl, hrd, hfd, hxd, hBd⟩ := hcut
          have HT6 := Lib.hid (HT5.out.below hBd)
          have HRM6 := Lib.hid (fun W (hb : Below wd.heap.size wd W) => HRM5.out W (kb hBd hb))
          have HPc6 := Lib.hid (HPc5.out.below hBd)
          have HBc6 := Lib.hid (kc hBd HBc5.out)
          have HB6 := Lib.hid (show Below w.heap.size w wd from HBW.out.trans ((HB5.out.trans (hBd.mono HB5.out.size)).mono HBW.out.size))
          have HRD := Lib.hid (And.intro hrd (And.intro hfd hxd))
          have hv6 := hBd.size
          have hwz6 := HB6.out.size
          have hrl : w.heap.size + 1 < wd.heap.size := klt hrd
          have hxl : xb + 1 < wd.heap.size := klt hxd
          have q0 := fun W => sec_not_nil2 B W
          clear hrd hfd hxd hBd HT5 HRM5 HPc5 HBc5 HPn5 HB5 HSM HTS HRB HMODE
          clear hb_0 hb_1 hr_0 fr_0 hxp_0 hwb_0 hwb_1
          go_wp2_with fail
          have hSE0 : SE wd.heap.size 0 (-1) ((wd.alloc (.cells #[.int .i64 0] 3)).alloc (.cells #[.int .i64 (-1)] 3)) := by
            refine ⟨?_, ?_, ?_, ?_⟩ <;> go_simp
          obtain ⟨Wl, hWl⟩ : ∃ W, (wd.alloc (.cells #[.int .i64 0] 3)).alloc (.cells #[.int .i64 (-1)] 3) = W := ⟨_, rfl⟩
          have hBl : Below wd.heap.size wd Wl := by rw [← hWl]; exact ((Below.refl _ _).alloc (Nat.le_refl _) _).alloc (by simp) _
          have hzl : Wl.heap.size = wd.heap.size + 1 + 1 := by rw [← hWl]; simp
          rw [hWl] at hSE0 ⊢
          clear hWl
          have HSE0 := Lib.hid hSE0
          have HBl := Lib.hid hBl
          have HPl := Lib.hid (HPc6.out.below hBl)
          have HBBl := Lib.hid (kc hBl HBc6.out)
          clear hSE0 hBl q0
          refine wpIn_rangeS (n := 4) (M := M) (by decide) (gf := 31) (lb := #[.pointer (some ⟨B, 0, none⟩)]) rfl (enters_of Tryd.func31 (by kernel_rfl) rfl)
            89 90 (wd.heap.size + 1) 16 17 wd.heap.size wd.heap.size wd (secp_stops (4 - 1) (by decide) B cb cbb wd.heap.size M Wl HBBl.out HPl.out (by omega) (by omega) (by omega) (by omega)) (by omega) rfl (by omega) HBl.out HSE0.out ?assign ?body ?done
          case assign =>
            rintro l1 pre x W K ⟨⟨hf, hc⟩, hB⟩ hK
            have hlt := klt hc.2.1
            have hszl := hB.size
            dsimp only [encS] at hK ⊢
            gi_wp2
            exact hK _ _ ((KeepsOthers.alloc _ _).from _) ((Below.refl _ W).alloc hszl _) ⟨⟨hf, hc.below ((Below.refl _ W).alloc (Nat.le_refl _) _)⟩, hB.alloc hszl _⟩ ⟨W.heap.size, hlt, ⟨by go_simp, by go_simp⟩, rfl⟩
          case body =>
            rintro l1 pre x a' W hl1 ⟨r1, hr1⟩ ⟨⟨hs1, hc⟩, hBW⟩ ⟨Bx, hBx, ⟨x1, x2⟩, rfl⟩ hlen
            obtain ⟨h1, h2, g1, g2⟩ := hc
            have hxp := kc hBW HRD.out.2.2
            have hszl := hBW.size
            have hlt1 := klt h1
            have hlt2 := klt h2
            have hltx := klt x1
            have hltp := klt hxp
            have hT := HT6.out.below hBW
            have hreal : realB ((x.1 : Nat) : Int) = true := by
              cases hr : realB ((x.1 : Nat) : Int)
              · have := x.2.2; rw [HT6.out.good.out _ hr] at this; exact absurd rfl this
              · rfl
            have HAT := Lib.hid (show ∀ U, Below W.heap.size W U → Calls Tryd.prog 17 #[.pointer (some ⟨xb, 0, none⟩), .int .i64 ((x.1 : Nat) : Int)] U (fun e w' => e = .returned (.agg #[.int .u8 (M (x.1 : Int)).1, .int .u8 (M (x.1 : Int)).2]) ∧ Below U.heap.size U w') from fun U hb => by
              have := atr_c L (by omega) ((x.1 : Nat) : Int) xb (xb + 1 + 1) _ U (HRM6.out U (kb hBW hb))
              rw [atP_real HT6.out.good.co hreal] at this
              exact this)
            have HR1 := Lib.hid (fun U => ramr_c ((x.1 : Nat) : Int) U)
            have HR2 := Lib.hid (fun U => romr_c ((x.1 : Nat) : Int) U)
            have HG := Lib.hid (fun h => stS_good (l := pre) (x := x) hs1 h)
            have HD := Lib.hid (fun h => stS_bad (l := pre) (x := x) h)
            have HTT := Lib.hid (show (stS (pre ++ [x])).2 = ((x.1 : Nat) : Int) from by rw [stS_snoc])
            have HLL := Lib.hid (show ((pre ++ [x]).length : Int) = (pre.length : Int) + 1 from by rw [List.length_append]; rfl)
            have hTne : ((M (x.1 : Int)).2 == 0) = false := by have := x.2.2; simpa using this
            have wN : IntKind.i64.wrap ((pre.length : Int) + 1) = (pre.length : Int) + 1 := IntWalk.i64_in _ (by omega)
            unfold realB at hreal
            dsimp only [encS]
            generalize ramB ((x.1 : Nat) : Int) = RA at *
            generalize romB ((x.1 : Nat) : Int) = RO at *
            generalize (M (x.1 : Int)).1 = m0 at *
            generalize (M (x.1 : Int)).2 = m1 at *
            have hTne2 : ¬ m1 = 0 := by simpa using hTne
            have hD1 : wd.heap.size < W.heap.size := by omega
            have hr_0 := kc hBW HRD.out.1
            have fr_0 := kfz hBW (klt HRD.out.1) HRD.out.2.1
            have hB : Below W.heap.size W W := Below.refl _ _
            have hbwz : w.heap.size + 1 < W.heap.size := klt hr_0
            cases e2 : decide (((x.1 : Nat) : Int) ≤ (stS pre).2)
            · have hG := Lib.hid (HG.out e2)
              clear HG HD
              cases RA
              · obtain rfl : RO = true := by simpa using hreal
                gi_wp2_with fail
                refine wpIn_region_plan (fun w' => w'.cell? ⟨Bx, 0, none⟩ = some (.int .u8 m0) ∧ w'.cell? ⟨Bx, 1, none⟩ = some (.int .u8 m1) ∧ w'.cell? ⟨wd.heap.size, 0, none⟩ = some (.int .i64 (pre.length : Int)) ∧ w'.frozen? ⟨wd.heap.size, 0, none⟩ = false ∧ w'.cell? ⟨wd.heap.size + 1, 0, none⟩ = some (.int .i64 (stS pre).2) ∧ w'.frozen? ⟨wd.heap.size + 1, 0, none⟩ = false ∧ w'.cell? ⟨xb + 1, 0, none⟩ = some (.pointer (some ⟨xb, 0, none⟩)) ∧ Below W.heap.size W w') (by kernel_rfl) (by kernel_rfl) (by kernel_rfl) (by kernel_rfl) ?_ ?_
                · (try dsimp only)
                  refine ⟨?_, ?_, ?_, ?_, ?_, ?_, ?_, ?_⟩ <;> first | (go_simp; done) | (simp [*]; done) | go_grown
                repeat (first
                  | (refine Plan.val (v := ?_) ?_ ?_ ?_; rotate_left; (· rfl); (· (intro W hSw; (try dsimp only at hSw); go_simp; all_goals (first | (with_reducible rfl) | (constructor <;> (with_reducible rfl)) | (rw [if_neg (by omega)]; done) | (rw [if_neg (by omega)]; with_reducible rfl)))); (try simp only [Act.put, List.setIfInBounds_toArray, List.set_cons_zero, List.set_cons_succ]))
                  | (refine Plan.no ?_ ?_; (· rfl); (try simp only [Act.put, List.setIfInBounds_toArray, List.set_cons_zero, List.set_cons_succ]))
                  | (refine Plan.call (v := ?_) (f := ?_) (args := ?_) ?_ ?_ ?_ ?_; rotate_left 3; (· rfl); (· (intro W hSw; (try dsimp only at hSw); go_simp; all_goals (first | (with_reducible rfl) | (constructor <;> (with_reducible rfl)) | (rw [if_neg (by omega)]; done) | (rw [if_neg (by omega)]; with_reducible rfl)))); (· (intro W hSw; (try dsimp only at hSw); first | (go_at_call 17; ((with_reducible refine (HAT.out _ hSw.2.2.2.2.2.2.2).mono ?_); rintro _ wz ⟨rfl, hb⟩; (refine ⟨?_, ?_⟩; (· with_reducible rfl); exact ⟨kc hb hSw.1, kc hb hSw.2.1, kc hb hSw.2.2.1, kfz hb (klt hSw.2.2.1) hSw.2.2.2.1, kc hb hSw.2.2.2.2.1, kfz hb (klt hSw.2.2.2.2.1) hSw.2.2.2.2.2.1, kc hb hSw.2.2.2.2.2.2.1, kb hSw.2.2.2.2.2.2.2 hb⟩))) | (go_at_call 19; ((with_reducible refine (HR1.out _).mono ?_); rintro _ wz ⟨rfl, hb⟩; (refine ⟨?_, ?_⟩; (· with_reducible rfl); exact ⟨kc hb hSw.1, kc hb hSw.2.1, kc hb hSw.2.2.1, kfz hb (klt hSw.2.2.1) hSw.2.2.2.1, kc hb hSw.2.2.2.2.1, kfz hb (klt hSw.2.2.2.2.1) hSw.2.2.2.2.2.1, kc hb hSw.2.2.2.2.2.2.1, kb hSw.2.2.2.2.2.2.2 hb⟩))) | (go_at_call 21; ((with_reducible refine (HR2.out _).mono ?_); rintro _ wz ⟨rfl, hb⟩; (refine ⟨?_, ?_⟩; (· with_reducible rfl); exact ⟨kc hb hSw.1, kc hb hSw.2.1, kc hb hSw.2.2.1, kfz hb (klt hSw.2.2.1) hSw.2.2.2.1, kc hb hSw.2.2.2.2.1, kfz hb (klt hSw.2.2.2.2.1) hSw.2.2.2.2.2.1, kc hb hSw.2.2.2.2.2.2.1, kb hSw.2.2.2.2.2.2.2 hb⟩))))); (try simp only [Act.put, List.setIfInBounds_toArray, List.set_cons_zero, List.set_cons_succ])))
                refine Plan.done ?_
                intro z T
                (try dsimp only at T)
                obtain ⟨hy_0, hy_1, hmm_0, fmm_0, hll_0, fll_0, hxq_0, hB⟩ := T
                have hsz := hB.size
                have hly := klt hy_0
                have hlmm := klt hmm_0
                have hlll := klt hll_0
                have hlxq := klt hxq_0
                obtain ⟨hny0, hny1, hky1, hny2, hky2⟩ := ap0 hly
                obtain ⟨hnmm0, hnmm1, hkmm1, hnmm2, hkmm2⟩ := ap0 hlmm
                obtain ⟨hnll0, hkll1⟩ := ap1 hlll
                obtain ⟨hnxq0, hnxq1, hkxq1, hnxq2, hkxq2⟩ := ap1f hlxq
                gi_wp2
                refine ⟨?_, ?_, ⟨hG.out, ?_⟩, ?_⟩
                · exact (((keeps_below hB).trans (KeepsOthers.setCell _ _ _)).trans (KeepsOthers.setCell _ _ _)).from _
                · exact ((hB.mono hszl).setCell (p := ⟨wd.heap.size + 1, 0, none⟩) (by simp) _).setCell (p := ⟨wd.heap.size, 0, none⟩) (Nat.le_refl _) _
                · unfold SE
                  rw [HLL.out, HTT.out]
                  refine ⟨?_, ?_, ?_, ?_⟩ <;> go_simp
                · exact hBW.trans (((hB.mono hszl).setCell (p := ⟨wd.heap.size + 1, 0, none⟩) (by simp) _).setCell (p := ⟨wd.heap.size, 0, none⟩) (Nat.le_refl _) _)
              · gi_wp2_with fail
                refine wpIn_region_plan (fun w' => w'.cell? ⟨Bx, 0, none⟩ = some (.int .u8 m0) ∧ w'.cell? ⟨Bx, 1, none⟩ = some (.int .u8 m1) ∧ w'.cell? ⟨wd.heap.size, 0, none⟩ = some (.int .i64 (pre.length : Int)) ∧ w'.frozen? ⟨wd.heap.size, 0, none⟩ = false ∧ w'.cell? ⟨wd.heap.size + 1, 0, none⟩ = some (.int .i64 (stS pre).2) ∧ w'.frozen? ⟨wd.heap.size + 1, 0, none⟩ = false ∧ w'.cell? ⟨xb + 1, 0, none⟩ = some (.pointer (some ⟨xb, 0, none⟩)) ∧ Below W.heap.size W w') (by kernel_rfl) (by kernel_rfl) (by kernel_rfl) (by kernel_rfl) ?_ ?_
                · (try dsimp only)
                  refine ⟨?_, ?_, ?_, ?_, ?_, ?_, ?_, ?_⟩ <;> first | (go_simp; done) | (simp [*]; done) | go_grown
                repeat (first
                  | (refine Plan.val (v := ?_) ?_ ?_ ?_; rotate_left; (· rfl); (· (intro W hSw; (try dsimp only at hSw); go_simp; all_goals (first | (with_reducible rfl) | (constructor <;> (with_reducible rfl)) | (rw [if_neg (by omega)]; done) | (rw [if_neg (by omega)]; with_reducible rfl)))); (try simp only [Act.put, List.setIfInBounds_toArray, List.set_cons_zero, List.set_cons_succ]))
                  | (refine Plan.no ?_ ?_; (· rfl); (try simp only [Act.put, List.setIfInBounds_toArray, List.set_cons_zero, List.set_cons_succ]))
                  | (refine Plan.call (v := ?_) (f := ?_) (args := ?_) ?_ ?_ ?_ ?_; rotate_left 3; (· rfl); (· (intro W hSw; (try dsimp only at hSw); go_simp; all_goals (first | (with_reducible rfl) | (constructor <;> (with_reducible rfl)) | (rw [if_neg (by omega)]; done) | (rw [if_neg (by omega)]; with_reducible rfl)))); (· (intro W hSw; (try dsimp only at hSw); first | (go_at_call 17; ((with_reducible refine (HAT.out _ hSw.2.2.2.2.2.2.2).mono ?_); rintro _ wz ⟨rfl, hb⟩; (refine ⟨?_, ?_⟩; (· with_reducible rfl); exact ⟨kc hb hSw.1, kc hb hSw.2.1, kc hb hSw.2.2.1, kfz hb (klt hSw.2.2.1) hSw.2.2.2.1, kc hb hSw.2.2.2.2.1, kfz hb (klt hSw.2.2.2.2.1) hSw.2.2.2.2.2.1, kc hb hSw.2.2.2.2.2.2.1, kb hSw.2.2.2.2.2.2.2 hb⟩))) | (go_at_call 19; ((with_reducible refine (HR1.out _).mono ?_); rintro _ wz ⟨rfl, hb⟩; (refine ⟨?_, ?_⟩; (· with_reducible rfl); exact ⟨kc hb hSw.1, kc hb hSw.2.1, kc hb hSw.2.2.1, kfz hb (klt hSw.2.2.1) hSw.2.2.2.1, kc hb hSw.2.2.2.2.1, kfz hb (klt hSw.2.2.2.2.1) hSw.2.2.2.2.2.1, kc hb hSw.2.2.2.2.2.2.1, kb hSw.2.2.2.2.2.2.2 hb⟩))) | (go_at_call 21; ((with_reducible refine (HR2.out _).mono ?_); rintro _ wz ⟨rfl, hb⟩; (refine ⟨?_, ?_⟩; (· with_reducible rfl); exact ⟨kc hb hSw.1, kc hb hSw.2.1, kc hb hSw.2.2.1, kfz hb (klt hSw.2.2.1) hSw.2.2.2.1, kc hb hSw.2.2.2.2.1, kfz hb (klt hSw.2.2.2.2.1) hSw.2.2.2.2.2.1, kc hb hSw.2.2.2.2.2.2.1, kb hSw.2.2.2.2.2.2.2 hb⟩))))); (try simp only [Act.put, List.setIfInBounds_toArray, List.set_cons_zero, List.set_cons_succ])))
                refine Plan.done ?_
                intro z T
                (try dsimp only at T)
                obtain ⟨hy_0, hy_1, hmm_0, fmm_0, hll_0, fll_0, hxq_0, hB⟩ := T
                have hsz := hB.size
                have hly := klt hy_0
                have hlmm := klt hmm_0
                have hlll := klt hll_0
                have hlxq := klt hxq_0
                obtain ⟨hny0, hny1, hky1, hny2, hky2⟩ := ap0 hly
                obtain ⟨hnmm0, hnmm1, hkmm1, hnmm2, hkmm2⟩ := ap0 hlmm
                obtain ⟨hnll0, hkll1⟩ := ap1 hlll
                obtain ⟨hnxq0, hnxq1, hkxq1, hnxq2, hkxq2⟩ := ap1f hlxq
                gi_wp2
                refine ⟨?_, ?_, ⟨hG.out, ?_⟩, ?_⟩
                · exact (((keeps_below hB).trans (KeepsOthers.setCell _ _ _)).trans (KeepsOthers.setCell _ _ _)).from _
                · exact ((hB.mono hszl).setCell (p := ⟨wd.heap.size + 1, 0, none⟩) (by simp) _).setCell (p := ⟨wd.heap.size, 0, none⟩) (Nat.le_refl _) _
                · unfold SE
                  rw [HLL.out, HTT.out]
                  refine ⟨?_, ?_, ?_, ?_⟩ <;> go_simp
                · exact hBW.trans (((hB.mono hszl).setCell (p := ⟨wd.heap.size + 1, 0, none⟩) (by simp) _).setCell (p := ⟨wd.heap.size, 0, none⟩) (Nat.le_refl _) _)
            · have hD := Lib.hid (HD.out e2)
              clear HG HD
              gi_wp2_with fail
              refine wpIn_region_plan (fun w' => w'.cell? ⟨w.heap.size + 1, 0, none⟩ = some (.bool false) ∧ w'.frozen? ⟨w.heap.size + 1, 0, none⟩ = false ∧ w'.cell? ⟨wd.heap.size, 0, none⟩ = some (.int .i64 (pre.length : Int)) ∧ w'.frozen? ⟨wd.heap.size, 0, none⟩ = false ∧ w'.cell? ⟨wd.heap.size + 1, 0, none⟩ = some (.int .i64 (stS pre).2) ∧ w'.frozen? ⟨wd.heap.size + 1, 0, none⟩ = false ∧ w'.cell? ⟨xb + 1, 0, none⟩ = some (.pointer (some ⟨xb, 0, none⟩)) ∧ Below W.heap.size W w') (by kernel_rfl) (by kernel_rfl) (by kernel_rfl) (by kernel_rfl) ?_ ?_
              · (try dsimp only)
                refine ⟨?_, ?_, ?_, ?_, ?_, ?_, ?_, ?_⟩ <;> first | (go_simp; done) | (simp [*]; done) | go_grown
              repeat (first
                | (refine Plan.val (v := ?_) ?_ ?_ ?_; rotate_left; (· rfl); (· (intro W hSw; (try dsimp only at hSw); go_simp; all_goals (first | (with_reducible rfl) | (constructor <;> (with_reducible rfl)) | (rw [if_neg (by omega)]; done) | (rw [if_neg (by omega)]; with_reducible rfl)))); (try simp only [Act.put, List.setIfInBounds_toArray, List.set_cons_zero, List.set_cons_succ]))
                | (refine Plan.no ?_ ?_; (· rfl); (try simp only [Act.put, List.setIfInBounds_toArray, List.set_cons_zero, List.set_cons_succ])))
              refine Plan.done ?_
              intro z T
              (try dsimp only at T)
              obtain ⟨hrr_0, frr_0, hmm_0, fmm_0, hll_0, fll_0, hxq_0, hB⟩ := T
              have hsz := hB.size
              have hlrr := klt hrr_0
              have hlmm := klt hmm_0
              have hlll := klt hll_0
              have hlxq := klt hxq_0
              obtain ⟨hnrr0, hnrr1, hkrr1, hnrr2, hkrr2⟩ := ap1f hlrr
              obtain ⟨hnmm0, hnmm1, hkmm1, hnmm2, hkmm2⟩ := ap0 hlmm
              obtain ⟨hnll0, hkll1⟩ := ap1 hlll
              obtain ⟨hnxq0, hnxq1, hkxq1, hnxq2, hkxq2⟩ := ap1f hlxq
              gi_wp2
              exact ⟨((keeps_below hB).trans (KeepsOthers.setCell _ _ _)).from _, rfl, hD.out⟩
          case done =>
            rintro Dd W hDd hc hBW hK
            obtain ⟨n2, hn2⟩ : ∃ n, L.length = n := ⟨_, rfl⟩
            have HN2 := Lib.hid hn2
            have hcnt : (upS M 65536).length = (plS M L n2).length := by rw [count_same HT6.out.good, hn2]
            have hTb := upS_len M 65536
            obtain ⟨T, hTT⟩ : ∃ T, (upS M 65536).length = T := ⟨_, rfl⟩
            rw [hTT] at hc hcnt hTb
            have HCN := Lib.hid hcnt
            have HTB := Lib.hid hTb
            have hn2b : n2 ≤ 5000 := by omega
            have hrm0 := HRM6.out wd (Below.refl _ _)
            have HOW := Lib.hid (HoldsE.own pt_len hrm0.ow)
            have hxl0 := hrm0.c0
            rw [hn2] at hxl0
            have HXL := Lib.hid hxl0
            have HREAL := Lib.hid HT6.out.good.real
            have HAT := Lib.hid (fun a' U (hb : Below wd.heap.size wd U) => atr_c L (by omega) a' xb (xb + 1 + 1) _ U (HRM6.out U hb))
            have HAR := Lib.hid (fun a' (h : realB a' = true) => atP_real HT6.out.good.co h)
            obtain ⟨h1, -, g1, -⟩ := hc
            have HDM := Lib.hid (show DM wd.heap.size Dd wd ((T : Int) - ((plS M L 0).length : Nat)) W from ⟨by rw [h1]; simp [plS], g1, hK, hBW⟩)
            have hDd2 : wd.heap.size + 1 + 1 ≤ Dd := by omega
            clear hn2 hcnt hTb hTT hrm0 hxl0 h1 g1 hK hBW
            go_wp2_with fail
            go_loopw [18] (fun s18 wr => ∃ k1 : Nat, k1 ≤ n2 ∧ s18 = .int .i64 k1 ∧ Hid (DM wd.heap.size Dd wd ((T : Int) - ((plS M L k1).length : Nat)) wr)) (fun i _ => n2 - (intOf i).toNat)
            case atStart => exact ⟨0, Nat.zero_le _, rfl, HDM⟩
            case round =>
              obtain ⟨k1, hk1, rfl, HDMr⟩ := hrel
              have hxp_0 := kc HDMr.out.b HRD.out.2.2
              have hxl_0 := kc HDMr.out.b HXL.out
              have hmm_0 := HDMr.out.c
              have fmm_0 := HDMr.out.f
              by_cases hlt7 : k1 < n2
              · have hd7 : decide ((k1 : Int) < (n2 : Int)) = true := decide_eq_true (by omega)
                have hlk : k1 < L.length := by rw [HN2.out]; exact hlt7
                obtain ⟨g2, o2, cap2, e2, hcap2, hc2⟩ := HOW.out.some (by omega)
                obtain ⟨rfl, n3, rfl⟩ := Value.slice.inj e2
                clear e2 n3
                have HCC := Lib.hid hc2
                have hx := List.getElem?_eq_getElem hlk
                have hre := HREAL.out L[k1] (List.getElem_mem hlk)
                generalize L[k1] = x at hx hre
                obtain ⟨p0, p1, p2⟩ := get3p hc2 hx
                have HSTEP := Lib.hid (plS_step M hx)
                obtain ⟨xa, xv, xt⟩ := x
                dsimp only at p0 p1 p2 hre HSTEP
                have hg2 : g2 < wd.heap.size := klt p0
                have hpk := kc HDMr.out.b p0
                have hw7 : IntKind.i64.wrap ((k1 : Int) + 1) = (k1 : Int) + 1 := IntWalk.i64_in _ (by omega)
                have hin7 : (0 : Int) ≤ (k1 : Int) ∧ (k1 : Int) < (n2 : Int) := by omega
                have HATx := Lib.hid (fun U (hb : Below wd.heap.size wd U) => HAT.out xa U hb)
                rw [HAR.out xa hre] at HATx
                obtain ⟨wq, hwq⟩ : ∃ W, W = wr := ⟨_, rfl⟩
                rw [← hwq] at HDMr hxp_0 hxl_0 hmm_0 fmm_0 hpk ⊢
                have hqz : wd.heap.size ≤ wq.heap.size := HDMr.out.b.size
                clear hwq hc2 hre p1 p2 hx
                go_wp2_with fail
                go_loopw [19, 20] (fun s19 s20 wr => ∃ j1 : Nat, j1 ≤ k1 ∧ s20 = .int .i64 j1 ∧ s19 = .bool (firstP L j1 xa) ∧ Below wq.heap.size wq wr) (fun _ i _ => k1 - (intOf i).toNat)
                case atStart => exact ⟨0, Nat.zero_le _, rfl, rfl, Below.refl _ _⟩
                case round =>
                  obtain ⟨j1, hj1, rfl, rfl, hB⟩ := hrel
                  have hsz := hB.size
                  have hxp_0 := kc hB hxp_0
                  have hxl_0 := kc hB hxl_0
                  have hmm_0' := kc hB hmm_0
                  have fmm_0' := kfz hB (klt hmm_0) fmm_0
                  have hpk_0 := kc hB hpk
                  by_cases hlt8 : j1 < k1
                  · have hd8 : decide ((j1 : Int) < (k1 : Int)) = true := decide_eq_true (by omega)
                    have hw8 : IntKind.i64.wrap ((j1 : Int) + 1) = (j1 : Int) + 1 := IntWalk.i64_in _ (by omega)
                    have hin8 : (0 : Int) ≤ (j1 : Int) ∧ (j1 : Int) < (n2 : Int) := by omega
                    have hlj : j1 < L.length := by omega
                    have hy := List.getElem?_eq_getElem hlj
                    generalize L[j1] = y at hy
                    obtain ⟨q0', -, -⟩ := get3p HCC.out hy
                    have HFS := Lib.hid (firstP_step hy xa)
                    obtain ⟨ya, yv, yt⟩ := y
                    dsimp only at q0' HFS
                    have hpj_0 := kc hB (kc HDMr.out.b q0')
                    clear hy q0'
                    cases hfp : firstP L j1 xa
                    · have HF8 := Lib.hid (show firstP L (j1 + 1) xa = false from by rw [HFS.out, hfp]; rfl)
                      clear hfp HFS
                      go_wp2_with fail
                      refine wp_region_plan (fun w' => w'.cell? ⟨xb + 1, 0, none⟩ = some (.pointer (some ⟨xb, 0, none⟩)) ∧ w'.cell? ⟨xb, 0, none⟩ = some (.slice (some ⟨g2, o2, none⟩) n2 rc) ∧ w'.cell? ⟨g2, o2 + k1 * 3, none⟩ = some (.int .i64 xa) ∧ w'.cell? ⟨g2, o2 + j1 * 3, none⟩ = some (.int .i64 ya) ∧ Below wq.heap.size wq w') (by kernel_rfl) (by kernel_rfl) (by kernel_rfl) ?_ ?_
                      · (try dsimp only)
                        refine ⟨?_, ?_, ?_, ?_, ?_⟩ <;> first | (go_simp; done) | (simp [*]; done) | go_grown
                      repeat (first
                        | (refine Plan.val (v := ?_) ?_ ?_ ?_; rotate_left; (· rfl); (· (intro W hSw; (try dsimp only at hSw); go_simp; all_goals (first | (with_reducible rfl) | (constructor <;> (with_reducible rfl)) | (rw [if_neg (by omega)]; done) | (rw [if_neg (by omega)]; with_reducible rfl)))); (try simp only [Act.put, List.setIfInBounds_toArray, List.set_cons_zero, List.set_cons_succ]))
                        | (refine Plan.no ?_ ?_; (· rfl); (try simp only [Act.put, List.setIfInBounds_toArray, List.set_cons_zero, List.set_cons_succ])))
                      refine Plan.done ?_
                      intro u8 T
                      (try dsimp only at T)
                      obtain ⟨hxp_0, hxl_0, hpk_0, hpj_0, hB⟩ := T
                      have hsz := hB.size
                      have hlxp := klt hxp_0
                      have hlxl := klt hxl_0
                      have hlpk := klt hpk_0
                      have hlpj := klt hpj_0
                      obtain ⟨hnxp0, hnxp1, hkxp1, hnxp2, hkxp2⟩ := ap1f hlxp
                      have hnxl2 : ¬ (xb = u8.heap.size + 1 + 1) := by omega
                      have hkxl2 : xb < u8.heap.size + 1 + 1 := by omega
                      obtain ⟨hnpk0, hnpk1, hkpk1, hnpk2, hkpk2⟩ := ap0 hlpk
                      go_wp2
                      go_roundw
                      case rel => exact ⟨j1 + 1, by omega, by go_num, by rw [HF8.out], hB⟩
                      case measure => simp [intOf] <;> omega
                    · have HF8 := Lib.hid (show firstP L (j1 + 1) xa = (ya != xa) from by rw [HFS.out, hfp]; rfl)
                      clear hfp HFS
                      go_wp2_with fail
                      refine wp_region_plan (fun w' => w'.cell? ⟨xb + 1, 0, none⟩ = some (.pointer (some ⟨xb, 0, none⟩)) ∧ w'.cell? ⟨xb, 0, none⟩ = some (.slice (some ⟨g2, o2, none⟩) n2 rc) ∧ w'.cell? ⟨g2, o2 + k1 * 3, none⟩ = some (.int .i64 xa) ∧ w'.cell? ⟨g2, o2 + j1 * 3, none⟩ = some (.int .i64 ya) ∧ Below wq.heap.size wq w') (by kernel_rfl) (by kernel_rfl) (by kernel_rfl) ?_ ?_
                      · (try dsimp only)
                        refine ⟨?_, ?_, ?_, ?_, ?_⟩ <;> first | (go_simp; done) | (simp [*]; done) | go_grown
                      repeat (first
                        | (refine Plan.val (v := ?_) ?_ ?_ ?_; rotate_left; (· rfl); (· (intro W hSw; (try dsimp only at hSw); go_simp; all_goals (first | (with_reducible rfl) | (constructor <;> (with_reducible rfl)) | (rw [if_neg (by omega)]; done) | (rw [if_neg (by omega)]; with_reducible rfl)))); (try simp only [Act.put, List.setIfInBounds_toArray, List.set_cons_zero, List.set_cons_succ]))
                        | (refine Plan.no ?_ ?_; (· rfl); (try simp only [Act.put, List.setIfInBounds_toArray, List.set_cons_zero, List.set_cons_succ])))
                      refine Plan.done ?_
                      intro u8 T
                      (try dsimp only at T)
                      obtain ⟨hxp_0, hxl_0, hpk_0, hpj_0, hB⟩ := T
                      have hsz := hB.size
                      have hlxp := klt hxp_0
                      have hlxl := klt hxl_0
                      have hlpk := klt hpk_0
                      have hlpj := klt hpj_0
                      obtain ⟨hnxp0, hnxp1, hkxp1, hnxp2, hkxp2⟩ := ap1f hlxp
                      have hnxl2 : ¬ (xb = u8.heap.size + 1 + 1) := by omega
                      have hkxl2 : xb < u8.heap.size + 1 + 1 := by omega
                      obtain ⟨hnpk0, hnpk1, hkpk1, hnpk2, hkpk2⟩ := ap0 hlpk
                      go_wp2
                      go_roundw
                      case rel => exact ⟨j1 + 1, by omega, by go_num, by rw [HF8.out], hB⟩
                      case measure => simp [intOf] <;> omega
                  · have hd8 : decide ((j1 : Int) < (k1 : Int)) = false := decide_eq_false (by omega)
                    have hjk : j1 = k1 := by omega
                    obtain ⟨FP, hFP⟩ : ∃ F, firstP L j1 xa = F := ⟨_, rfl⟩
                    rw [hFP]
                    rw [hjk] at hFP
                    rw [hFP] at HSTEP
                    clear hFP hjk
                    obtain ⟨TX, hTX⟩ : ∃ t, (M xa).2 = t := ⟨_, rfl⟩
                    obtain ⟨VX, hVX⟩ : ∃ t, (M xa).1 = t := ⟨_, rfl⟩
                    rw [hTX] at HATx HSTEP
                    rw [hVX] at HATx
                    clear hTX hVX
                    have HDMq := Lib.hid (HDMr.out.below hB)
                    have hB0 := hB
                    have hmm_0 := hmm_0'
                    have fmm_0 := fmm_0'
                    have hf1 : ∀ W, (Instr.field 33 (.agg #[.int .u8 VX, .int .u8 TX]) 1).run Tryd.prog W = .ok (.int .u8 TX) W := fun W => by kernel_rfl
                    clear hmm_0' fmm_0'
                    cases FP
                    · have HREL := Lib.hid (show plS M L (k1 + 1) = plS M L k1 from by rw [HSTEP.out]; rfl)
                      go_wp2_with fail
                      refine wp_region_plan (fun w' => w'.cell? ⟨xb + 1, 0, none⟩ = some (.pointer (some ⟨xb, 0, none⟩)) ∧ w'.cell? ⟨xb, 0, none⟩ = some (.slice (some ⟨g2, o2, none⟩) n2 rc) ∧ w'.cell? ⟨g2, o2 + k1 * 3, none⟩ = some (.int .i64 xa) ∧ w'.cell? ⟨wd.heap.size, 0, none⟩ = some (.int .i64 ((T : Int) - ((plS M L k1).length : Nat))) ∧ w'.frozen? ⟨wd.heap.size, 0, none⟩ = false ∧ Below wq.heap.size wq w') (by kernel_rfl) (by kernel_rfl) (by kernel_rfl) ?_ ?_
                      · (try dsimp only)
                        refine ⟨?_, ?_, ?_, ?_, ?_, ?_⟩ <;> first | (go_simp; done) | (simp [*]; done) | go_grown
                      repeat (first
                        | (refine Plan.val (v := ?_) ?_ ?_ ?_; rotate_left; (· rfl); (· (intro W hSw; (try dsimp only at hSw); go_simp; all_goals (first | (with_reducible rfl) | (constructor <;> (with_reducible rfl)) | (rw [if_neg (by omega)]; done) | (rw [if_neg (by omega)]; with_reducible rfl)))); (try simp only [Act.put, List.setIfInBounds_toArray, List.set_cons_zero, List.set_cons_succ]))
                        | (refine Plan.no ?_ ?_; (· rfl); (try simp only [Act.put, List.setIfInBounds_toArray, List.set_cons_zero, List.set_cons_succ])))
                      refine Plan.done ?_
                      intro u9 T
                      (try dsimp only at T)
                      obtain ⟨hxp_0, hxl_0, hpk_0, hmm_0, fmm_0, hB⟩ := T
                      have hsz := hB.size
                      have hlxp := klt hxp_0
                      have hlxl := klt hxl_0
                      have hlpk := klt hpk_0
                      have hlmm := klt hmm_0
                      obtain ⟨hnxp0, hnxp1, hkxp1, hnxp2, hkxp2⟩ := ap1f hlxp
                      have hnxl2 : ¬ (xb = u9.heap.size + 1 + 1) := by omega
                      have hkxl2 : xb < u9.heap.size + 1 + 1 := by omega
                      obtain ⟨hnpk0, hnpk1, hkpk1, hnpk2, hkpk2⟩ := ap0 hlpk
                      obtain ⟨hnmm0, hnmm1, hkmm1, hnmm2, hkmm2⟩ := ap0 hlmm
                      go_wp2
                      go_roundw
                      case rel => exact ⟨k1 + 1, by omega, by go_num, Lib.hid (by rw [HREL.out]; exact HDMr.out.below hB)⟩
                      case measure => simp [intOf] <;> omega
                    · by_cases h9 : TX = 0
                      · have HREL := Lib.hid (show plS M L (k1 + 1) = plS M L k1 from by rw [HSTEP.out, h9]; rfl)
                        have h9a : (TX == 0) = true := by simpa using h9
                        have h9b : (TX != 0) = false := by simp [h9]
                        clear h9
                        go_wp2_with fail
                        refine wp_region_plan (fun w' => w'.cell? ⟨xb + 1, 0, none⟩ = some (.pointer (some ⟨xb, 0, none⟩)) ∧ w'.cell? ⟨xb, 0, none⟩ = some (.slice (some ⟨g2, o2, none⟩) n2 rc) ∧ w'.cell? ⟨g2, o2 + k1 * 3, none⟩ = some (.int .i64 xa) ∧ w'.cell? ⟨wd.heap.size, 0, none⟩ = some (.int .i64 ((T : Int) - ((plS M L k1).length : Nat))) ∧ w'.frozen? ⟨wd.heap.size, 0, none⟩ = false ∧ Below wq.heap.size wq w') (by kernel_rfl) (by kernel_rfl) (by kernel_rfl) ?_ ?_
                        · (try dsimp only)
                          refine ⟨?_, ?_, ?_, ?_, ?_, ?_⟩ <;> first | (go_simp; done) | (simp [*]; done) | go_grown
                        repeat (first
                          | (refine Plan.val (v := ?_) ?_ ?_ ?_; rotate_left; (· rfl); (· (intro W hSw; (try dsimp only at hSw); go_simp; all_goals (first | (with_reducible rfl) | (constructor <;> (with_reducible rfl)) | (rw [if_neg (by omega)]; done) | (rw [if_neg (by omega)]; with_reducible rfl)))); (try simp only [Act.put, List.setIfInBounds_toArray, List.set_cons_zero, List.set_cons_succ]))
                          | (refine Plan.no ?_ ?_; (· rfl); (try simp only [Act.put, List.setIfInBounds_toArray, List.set_cons_zero, List.set_cons_succ]))
                          | (refine Plan.call (v := ?_) (f := ?_) (args := ?_) ?_ ?_ ?_ ?_; rotate_left 3; (· rfl); (· (intro W hSw; (try dsimp only at hSw); go_simp; all_goals (first | (with_reducible rfl) | (constructor <;> (with_reducible rfl)) | (rw [if_neg (by omega)]; done) | (rw [if_neg (by omega)]; with_reducible rfl)))); (· (intro W hSw; (try dsimp only at hSw); first | (go_at_call 17; ((with_reducible refine (HATx.out _ (kb HDMr.out.b hSw.2.2.2.2.2)).mono ?_); rintro _ wz ⟨rfl, hb⟩; (refine ⟨?_, ?_⟩; (· with_reducible rfl); exact ⟨kc hb hSw.1, kc hb hSw.2.1, kc hb hSw.2.2.1, kc hb hSw.2.2.2.1, kfz hb (klt hSw.2.2.2.1) hSw.2.2.2.2.1, kb hSw.2.2.2.2.2 hb⟩))))); (try simp only [Act.put, List.setIfInBounds_toArray, List.set_cons_zero, List.set_cons_succ])))
                        refine Plan.done ?_
                        intro u9 T
                        (try dsimp only at T)
                        obtain ⟨hxp_0, hxl_0, hpk_0, hmm_0, fmm_0, hB⟩ := T
                        have hsz := hB.size
                        have hlxp := klt hxp_0
                        have hlxl := klt hxl_0
                        have hlpk := klt hpk_0
                        have hlmm := klt hmm_0
                        obtain ⟨hnxp0, hnxp1, hkxp1, hnxp2, hkxp2⟩ := ap1f hlxp
                        have hnxl2 : ¬ (xb = u9.heap.size + 1 + 1) := by omega
                        have hkxl2 : xb < u9.heap.size + 1 + 1 := by omega
                        obtain ⟨hnpk0, hnpk1, hkpk1, hnpk2, hkpk2⟩ := ap0 hlpk
                        obtain ⟨hnmm0, hnmm1, hkmm1, hnmm2, hkmm2⟩ := ap0 hlmm
                        go_wp2
                        go_roundw
                        case rel => exact ⟨k1 + 1, by omega, by go_num, Lib.hid (by rw [HREL.out]; exact HDMr.out.below hB)⟩
                        case measure => simp [intOf] <;> omega
                      · have h9a : (TX == 0) = false := by simpa using h9
                        have h9b : (TX != 0) = true := by simp [h9]
                        have HREL := Lib.hid (show (plS M L (k1 + 1)).length = (plS M L k1).length + 1 from by rw [HSTEP.out, h9a]; simp)
                        have hpl := plS_len M L k1
                        have hw9 : IntKind.i64.wrap ((T : Int) - ((plS M L k1).length : Nat) - 1) = (T : Int) - ((plS M L k1).length : Nat) - 1 := IntWalk.i64_in _ (by have := HTB.out; omega)
                        clear h9 hpl
                        go_wp2_with fail
                        refine wp_region_plan (fun w' => w'.cell? ⟨xb + 1, 0, none⟩ = some (.pointer (some ⟨xb, 0, none⟩)) ∧ w'.cell? ⟨xb, 0, none⟩ = some (.slice (some ⟨g2, o2, none⟩) n2 rc) ∧ w'.cell? ⟨g2, o2 + k1 * 3, none⟩ = some (.int .i64 xa) ∧ w'.cell? ⟨wd.heap.size, 0, none⟩ = some (.int .i64 ((T : Int) - ((plS M L k1).length : Nat))) ∧ w'.frozen? ⟨wd.heap.size, 0, none⟩ = false ∧ Below wq.heap.size wq w') (by kernel_rfl) (by kernel_rfl) (by kernel_rfl) ?_ ?_
                        · (try dsimp only)
                          refine ⟨?_, ?_, ?_, ?_, ?_, ?_⟩ <;> first | (go_simp; done) | (simp [*]; done) | go_grown
                        repeat (first
                          | (refine Plan.val (v := ?_) ?_ ?_ ?_; rotate_left; (· rfl); (· (intro W hSw; (try dsimp only at hSw); go_simp; all_goals (first | (with_reducible rfl) | (constructor <;> (with_reducible rfl)) | (rw [if_neg (by omega)]; done) | (rw [if_neg (by omega)]; with_reducible rfl)))); (try simp only [Act.put, List.setIfInBounds_toArray, List.set_cons_zero, List.set_cons_succ]))
                          | (refine Plan.no ?_ ?_; (· rfl); (try simp only [Act.put, List.setIfInBounds_toArray, List.set_cons_zero, List.set_cons_succ]))
                          | (refine Plan.call (v := ?_) (f := ?_) (args := ?_) ?_ ?_ ?_ ?_; rotate_left 3; (· rfl); (· (intro W hSw; (try dsimp only at hSw); go_simp; all_goals (first | (with_reducible rfl) | (constructor <;> (with_reducible rfl)) | (rw [if_neg (by omega)]; done) | (rw [if_neg (by omega)]; with_reducible rfl)))); (· (intro W hSw; (try dsimp only at hSw); first | (go_at_call 17; ((with_reducible refine (HATx.out _ (kb HDMr.out.b hSw.2.2.2.2.2)).mono ?_); rintro _ wz ⟨rfl, hb⟩; (refine ⟨?_, ?_⟩; (· with_reducible rfl); exact ⟨kc hb hSw.1, kc hb hSw.2.1, kc hb hSw.2.2.1, kc hb hSw.2.2.2.1, kfz hb (klt hSw.2.2.2.1) hSw.2.2.2.2.1, kb hSw.2.2.2.2.2 hb⟩))))); (try simp only [Act.put, List.setIfInBounds_toArray, List.set_cons_zero, List.set_cons_succ])))
                        refine Plan.done ?_
                        intro u9 T
                        (try dsimp only at T)
                        obtain ⟨hxp_0, hxl_0, hpk_0, hmm_0, fmm_0, hB⟩ := T
                        have hsz := hB.size
                        have hlxp := klt hxp_0
                        have hlxl := klt hxl_0
                        have hlpk := klt hpk_0
                        have hlmm := klt hmm_0
                        obtain ⟨hnxp0, hnxp1, hkxp1, hnxp2, hkxp2⟩ := ap1f hlxp
                        have hnxl2 : ¬ (xb = u9.heap.size + 1 + 1) := by omega
                        have hkxl2 : xb < u9.heap.size + 1 + 1 := by omega
                        obtain ⟨hnpk0, hnpk1, hkpk1, hnpk2, hkpk2⟩ := ap0 hlpk
                        obtain ⟨hnmm0, hnmm1, hkmm1, hnmm2, hkmm2⟩ := ap0 hlmm
                        have HB9 := Lib.hid hB
                        go_wp2
                        go_roundw
                        case rel => exact ⟨k1 + 1, by omega, by go_num, Lib.hid (by
                          rw [HREL.out, show (T : Int) - (((plS M L k1).length + 1 : Nat) : Int) = (T : Int) - ((plS M L k1).length : Nat) - 1 by omega]
                          exact (HDMr.out.below HB9.out).set _ (Nat.le_refl _) (by omega))⟩
                        case measure => simp [intOf] <;> omega
              · have hd7 : decide ((k1 : Int) < (n2 : Int)) = false := decide_eq_false (by omega)
                have hz7 : (T : Int) - ((plS M L k1).length : Nat) = 0 := by
                  have := HCN.out
                  rw [show k1 = n2 by omega]
                  omega
                rw [hz7] at hmm_0
                have hBf : Below w.heap.size w wr := kb HB6.out HDMr.out.b
                clear hz7
                go_wp2_with fail
                refine (HA.out _ hBf).mono ?_
                rintro _ uu ⟨rfl, hbu⟩
                have hr_0 := kc hbu (kc HDMr.out.b HRD.out.1)
                have fr_0 := kfz hbu (klt (kc HDMr.out.b HRD.out.1)) (kfz HDMr.out.b (klt HRD.out.1) HRD.out.2.1)
                have HDd := Lib.hid ((HDMr.out.below hbu).d)
                have HBu := Lib.hid (kb hBf hbu)
                clear hbu
                go_wp2
                have hK2 := (KeepsOthers.setCell uu ⟨w.heap.size + 1, 0, none⟩ (.bool true)).same Dd _ HDd.out rfl
                have hB2 : Below w.heap.size w (uu.setCell ⟨w.heap.size + 1, 0, none⟩ (.bool true)) := HBu.out.setCell (p := ⟨w.heap.size + 1, 0, none⟩) (by simp) _
                have c3 : (uu.setCell ⟨w.heap.size + 1, 0, none⟩ (.bool true)).cell? ⟨w.heap.size + 1, 0, none⟩ = some (.bool true) := by go_simp
                generalize uu.setCell ⟨w.heap.size + 1, 0, none⟩ (.bool true) = W2 at *
                refine ⟨by simp, .inl ⟨_, _, rfl, run_takeDeferred hK2, ?_⟩⟩
                have d3 := cell_kept c3 (grownBy_putObj' _ Dd (.deferred none)) (fun r e => by cases e; exact ⟨_, hK2, rfl⟩)
                refine ⟨.bool true, ?_, rfl, hB2.trans (belowK_b (w := w) (Nat.le_refl _) W2 Dd _ _ (by omega) hK2 rfl rfl)⟩
                simp [results, Tryd.results4, go_sem, d3]
theorem secrets_walk (l : List OpR) (v : Value) (a : Int) (hi : -9223372036854775808 ≤ a ∧ a ≤ 9223372036854775807) (bv bt : Int) (w : World) (hv : HoldsO w.heap.size w v l) (hl : l.length ≤ 9223372036854775807) (hm : ∀ x ∈ l, x.l.length ≤ 9223372036854775807) (hL : Laid w) :
    Calls Tryd.prog 4 #[v, .int .i64 a, .agg #[.int .u8 bv, .int .u8 bt]] w fun e w' => e = .returned (.bool true) ∧ Below w.heap.size w w' :=
  callsIn_wide.1 (secrets_in l v a bv bt w hv hl hL)
end Go.Proofs.YtoakgchfdihjbaaDoor
