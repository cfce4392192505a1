/-
  Layer 13's laws: the bus of a setup that has none (genm13.py writes the first).
  The law's bytes, compared.
  The program's Out, Kept, Log, Left, and how what comes in is cloned.
-/
import Derived.Test.YtcnejgilmciljaaGreatDoorMade13
import Derived.Test.YtcnejgilmciljaaGreatDoorRef11
import Derived.Deep.LoopGhost
import Derived.Test.YtcnejgilmciljaaGreatDoorFar12
set_option linter.unusedSimpArgs false
set_option linter.unusedVariables false
namespace Go.Proofs.YtcnejgilmciljaaGreatDoor
open Go.RowKit Go.PlainAid

def kAnsB (v : Value) : KdR := .any v (fun u => u = v) (fun x _ => x.v = v)
theorem kAnsB_fine (v : Value) : (kAnsB v).Fine := ⟨rfl, fun x W w1 h hb => h, fun _ _ h => h⟩
set_option maxRecDepth 100000 in
set_option maxHeartbeats 8000000 in
theorem made13_bad {BO : Nat → Bs → Thing} (K : BusK BO) (s : Su) (lv pv sv : Value) (w : World) (h : InS w.heap.size w lv pv sv s) (hL : Laid w) (h1 : s.pub.length ≤ 65536) (h2 : s.sec.length ≤ 65536) (hT : ¬ s.T.May) :
    Calls Tryz.prog 8 #[.agg (suA lv pv sv s.T)] w fun e w' => e = .returned (.pointer none) ∧ Below w.heap.size w w' := by
  have HK := Lib.hid K
  have hlt0 := hL.lt
  have HL := Lib.hid hL
  have HPN := Lib.hid (fun W (hW : Below w.heap.size w W) => pnew_c s.pub s.sec h1 h2 pv sv W (h.p.1.below hW) (h.s.1.below hW))
  have HCK := Lib.hid h.ck
  have HQ := Lib.hid (show cksM s.cs zeroM = suM s from rfl)
  have HT := Lib.hid hT
  have hl := h.cl
  obtain ⟨p, c, rfl⟩ := h.c.form
  have HV := Lib.hid h.c
  obtain ⟨cs, T, pub, sec⟩ := s
  dsimp only at *
  obtain ⟨n, hn⟩ : ∃ n, cs.length = n := ⟨_, rfl⟩
  rw [hn] at hl HV ⊢
  have HN := Lib.hid hn
  clear h hL h1 h2 hT hn
  unfold suA
  go_enter Tryz.func8, Tryz.ntmps8
  go_wp2_with fail
  have HC0 := Lib.hid (show ∀ i v, (suA (.slice p n c) pv sv T)[i]? = some v → (w.alloc (Obj.cells (suA (.slice p n c) pv sv T) 27)).cell? ⟨w.heap.size, i, none⟩ = some v from fun i v hv => by
    rw [cell_of_row _ _ _ _ _ _ (heap_alloc_new w (.cells (suA (.slice p n c) pv sv T) 27))]
    exact hv)
  have HB0 := Lib.hid (show Below w.heap.size w (w.alloc (Obj.cells (suA (.slice p n c) pv sv T) 27)) from by go_grown)
  unfold suA at HC0 HB0
  obtain ⟨w1, hw1⟩ : ∃ W, W = w.alloc (Obj.cells #[.slice p n c, .int .i64 T.l, .int .i64 T.c, .bool T.r, .bool T.a, .bool T.s, .bool T.g, pv, sv] 27) := ⟨_, rfl⟩
  have hz1 : w1.heap.size = w.heap.size + 1 := by rw [hw1]; simp
  rw [← hw1] at HC0 HB0 ⊢
  clear hw1
  refine (newp_c w1 (by omega)).mono ?_
  rintro _ u ⟨rfl, hb, hm⟩
  obtain ⟨mb, hmb⟩ : ∃ x, w1.heap.size + 1 = x := ⟨_, rfl⟩
  obtain ⟨mbb, hmbb⟩ : ∃ x, w1.heap.size = x := ⟨_, rfl⟩
  rw [hmb] at hm ⊢
  rw [hmbb] at hm
  have HB1 := Lib.hid (Below.trans HB0.out (hb.mono (by omega)))
  have HC1 := Lib.hid (fun i v hv => kc hb (HC0.out i v hv))
  have HM1 := Lib.hid hm
  have c7 : u.cell? ⟨w.heap.size, 7, none⟩ = some pv := HC1.out 7 _ rfl
  have c8 : u.cell? ⟨w.heap.size, 8, none⟩ = some sv := HC1.out 8 _ rfl
  have hzu := HB1.out.size
  have hmu := hm.lt
  have hbu := klt c7
  clear hb hm HB0 HC0
  go_wp2_with fail
  refine (HPN.out u HB1.out).mono ?_
  rintro _ u2 ⟨pb, F, G, rfl, hpo, hg, hpl, hb⟩
  have HI0 := Lib.hid (show MadeI w.heap.size w (.slice p n c) pv sv T mb mbb pb ⟨pub, sec, [], [], [], []⟩ F G zeroM u2 from
    ⟨HM1.out.below hb, hpo, HL.out.below (Below.trans HB1.out (hb.mono hzu)), Below.trans HB1.out (hb.mono hzu), fun i v hv => kc hb (HC1.out i v hv), Nat.lt_of_lt_of_le hbu hb.size, by omega, by omega, fun k hk => by have := hg k hk; omega⟩)
  clear hpo hg hpl hb c7 c8 HB1 HC1 HM1 hzu hmu hbu HPN
  unfold okV
  go_wp2_with fail
  go_loopw [6] (fun i wr => ∃ (k : Nat) (M : Int → Int × Int), k ≤ n ∧ i = .int .i64 k ∧ Hid (cksM (cs.drop k) M = suM ⟨cs, T, pub, sec⟩) ∧ Hid (MadeI w.heap.size w (.slice p n c) pv sv T mb mbb pb ⟨pub, sec, [], [], [], []⟩ F G M wr)) (fun i _ => n - (intOf i).toNat)
  case atStart => exact ⟨0, zeroM, Nat.zero_le _, rfl, Lib.hid (by rw [List.drop_zero]; exact HQ.out), HI0⟩
  case round =>
    clear HI0 HQ
    obtain ⟨k, M, hk, rfl, HKM, HI⟩ := hrel
    have c0 : wr.cell? ⟨w.heap.size, 0, none⟩ = some (.slice p n c) := HI.out.c 0 _ rfl
    have hbk := HI.out.k
    by_cases hlt : k < n
    · have hk1 : k < cs.length := by have := HN.out; omega
      have hd : decide ((k : Int) < (n : Int)) = true := decide_eq_true (by omega)
      have hin : (0 : Int) ≤ (k : Int) ∧ (k : Int) < (n : Int) := by omega
      have hw1 : IntKind.i64.wrap ((k : Int) + 1) = (k : Int) + 1 := IntWalk.i64_in _ (by omega)
      rcases HV.out with ⟨_, e⟩ | ⟨g, o, cap, e1, hcap, hgN, hcc⟩
      · subst e; exact absurd hk1 (by simp)
      obtain ⟨rfl, n1, rfl⟩ := Value.slice.inj e1
      clear e1 n1
      obtain ⟨xv, x0, x1, x2, x6, x7⟩ := hcc k _ (List.getElem?_eq_getElem hk1)
      have hst := HKM.out
      have hmem := HCK.out _ (List.getElem_mem hk1)
      rw [List.drop_eq_getElem_cons hk1, cksM] at hst
      generalize cs[k] = x at *
      obtain ⟨xa, xl, xt⟩ := x
      dsimp only at x0 x1 x2 x6 x7 hmem
      obtain ⟨lp, lc, rfl⟩ := x6.form
      obtain ⟨m, hm⟩ : ∃ m, xl.length = m := ⟨_, rfl⟩
      have HST := Lib.hid hst
      have hx_0 := kc HI.out.b x0
      have hx_1 := kc HI.out.b x1
      have hx_2 := kc HI.out.b x2
      have HX := Lib.hid (x6.below HI.out.b)
      have HX7 := Lib.hid (show 0 < xl.length → ∀ g, (Value.slice lp m lc).ownBlock = some g → g ≠ mbb from fun h g hg => by rw [hm] at x7; have := x7 (by omega) g hg; have := HI.out.n1; omega)
      have hml := hmem.2.2.1
      have HHM := Lib.hid hm
      rw [hm] at hx_1 HX
      have hgl := klt hx_0
      clear hcc hst x0 x1 x2 x6 x7 hm hmem HKM
      go_wp2_with fail
      have HI1 := Lib.hid (HI.out.below (show Below wr.heap.size wr (wr.alloc (Obj.cells #[.int .i64 xa, .slice lp m lc, .int .u8 xt] 73)) from by go_grown))
      have HC1 := Lib.hid (show CkC wr.heap.size xa (.slice lp m lc) xt (wr.alloc (Obj.cells #[.int .i64 xa, .slice lp m lc, .int .u8 xt] 73)) from ⟨by go_simp; first | done | rfl, by go_simp; first | done | rfl, by go_simp; first | done | rfl⟩)
      have HX1 := Lib.hid (HX.out.below (show Below wr.heap.size wr (wr.alloc (Obj.cells #[.int .i64 xa, .slice lp m lc, .int .u8 xt] 73)) from by go_grown))
      have hmb' := HI.out.m.lt
      refine (loadp_c M xa xl hml mb mbb _ _ HI1.out.m HI1.out.l HX1.out HX7.out).mono ?_
      rintro _ u1 ⟨rfl, hg1, hP1⟩
      have HOK := Lib.hid (fun h => load_ok (M := M) (a := xa) (l := xl) h)
      have HS := Lib.hid (show ckM M ⟨xa, xl, xt⟩ = (if (loadMp M xa xl).1 = 0 ∧ 0 < xl.length then (labelMp (loadMp M xa xl).2 xa (xa + xl.length - 1) xt).2 else (loadMp M xa xl).2) from rfl)
      obtain ⟨⟨E, M1⟩, hLM⟩ : ∃ X, loadMp M xa xl = X := ⟨_, rfl⟩
      rw [hLM] at hP1 HS HOK ⊢
      dsimp only at hP1 HS HOK ⊢
      have HI2 := Lib.hid (HI1.out.step hg1 hP1)
      have hC2 := HC1.out.fr (Fr.ofGrown (F := fun k => k = mbb) hg1 (fun b _ e => (Option.some.inj e).symm)) (by omega)
      obtain ⟨y0, y1, y2⟩ := hC2
      have hly := klt y0
      rw [HHM.out] at HS HOK
      have HY := Lib.hid (show CkC wr.heap.size xa (.slice lp m lc) xt u1 from ⟨y0, y1, y2⟩)
      clear hg1 hP1 hLM HI1 HC1 HX1 HX HI c0 hx_0 hx_1 hx_2
      by_cases hE : E = 0
      · subst hE
        by_cases hm0 : 0 < m
        · have hok := HOK.out rfl hm0
          have hd2 : decide ((0 : Int) < (m : Int)) = true := decide_eq_true (by omega)
          have hw2 : IntKind.i64.wrap (xa + (m : Int)) = xa + m := IntWalk.i64_in _ (by omega)
          have hw3 : IntKind.i64.wrap (xa + (m : Int) - 1) = xa + m - 1 := IntWalk.i64_in _ (by omega)
          have hs := HS.out
          rw [if_pos ⟨rfl, hm0⟩] at hs
          have HS2 := Lib.hid hs
          clear hs
          go_wp2_with fail
          refine (labelp_c M1 xa (xa + m - 1) xt mb mbb _ HI2.out.m HI2.out.l).mono ?_
          rintro _ u2 ⟨rfl, hg2, hP2⟩
          have HI3 := Lib.hid (HI2.out.step hg2 hP2)
          clear hg2 hP2
          go_wp2
          exact ⟨⟨k + 1, _, by omega, by simp, Lib.hid (by rw [← HST.out, HS2.out]), HI3⟩, by first | omega | (simp [intOf]; omega)⟩
        · have hd2 : decide ((0 : Int) < (m : Int)) = false := decide_eq_false (by omega)
          have hs := HS.out
          rw [if_neg (by omega)] at hs
          have HS2 := Lib.hid hs
          clear hs
          go_wp2
          exact ⟨⟨k + 1, _, by omega, by simp, Lib.hid (by rw [← HST.out, HS2.out]), HI2⟩, by first | omega | (simp [intOf]; omega)⟩
      · have hd2 : (E == 0) = false := by simpa using hE
        have hs := HS.out
        rw [if_neg (fun h => hE h.1)] at hs
        have HS2 := Lib.hid hs
        clear hs hE
        go_wp2
        exact ⟨⟨k + 1, _, by omega, by simp, Lib.hid (by rw [← HST.out, HS2.out]), HI2⟩, by first | omega | (simp [intOf]; omega)⟩
    · obtain rfl : k = n := by omega
      have hd : decide ((k : Int) < (k : Int)) = false := decide_eq_false (by omega)
      have hdr := HKM.out
      rw [List.drop_eq_nil_of_le (by have := HN.out; omega), cksM] at hdr
      have HMM := Lib.hid hdr
      clear hdr
      go_upto_region 11 with fail
      have hI0 := Below.refl wr.heap.size wr
      have b1 : wr.cell? ⟨w.heap.size, 1, none⟩ = some (.int .i64 T.l) := HI.out.c 1 _ rfl
      have b2 : wr.cell? ⟨w.heap.size, 2, none⟩ = some (.int .i64 T.c) := HI.out.c 2 _ rfl
      have b3 : wr.cell? ⟨w.heap.size, 3, none⟩ = some (.bool T.r) := HI.out.c 3 _ rfl
      have b4 : wr.cell? ⟨w.heap.size, 4, none⟩ = some (.bool T.a) := HI.out.c 4 _ rfl
      have b5 : wr.cell? ⟨w.heap.size, 5, none⟩ = some (.bool T.s) := HI.out.c 5 _ rfl
      have b6 : wr.cell? ⟨w.heap.size, 6, none⟩ = some (.bool T.g) := HI.out.c 6 _ rfl
      have HNEW := Lib.hid (fun (wb : Nat) (W : World) => HK.out.newBad ⟨mb, 0, none⟩ ⟨pb, 0, none⟩ ⟨wb, 0, none⟩ T W HT.out)
      unfold tmVal at HNEW
      have HBW := Lib.hid HI.out.b
      clear HI HMM HKM c0 hlt HCK HV
      refine wp_region_planR 11 (fun W => W.cell? ⟨w.heap.size, 1, none⟩ = some (.int .i64 T.l) ∧ W.cell? ⟨w.heap.size, 2, none⟩ = some (.int .i64 T.c) ∧ W.cell? ⟨w.heap.size, 3, none⟩ = some (.bool T.r) ∧ W.cell? ⟨w.heap.size, 4, none⟩ = some (.bool T.a) ∧ W.cell? ⟨w.heap.size, 5, none⟩ = some (.bool T.s) ∧ W.cell? ⟨w.heap.size, 6, none⟩ = some (.bool T.g) ∧ Below wr.heap.size wr W)
        [.val (.pointer (some ⟨mb, 0, none⟩)), .val (.pointer (some ⟨w.heap.size, 1, none⟩)), .val (.agg #[.int .i64 T.l, .int .i64 T.c, .bool T.r, .bool T.a, .bool T.s, .bool T.g]), .val (.pointer (some ⟨pb, 0, none⟩)), kWh, kAnsB (.tuple #[.pointer none, .int .i64 10]),
          .val (.tuple #[.pointer none, .int .i64 10]), .val (.pointer none), .val (.int .i64 10), .val (.pointer none), .val (.int .i64 10)]
        (by kernel_rfl) (by kernel_rfl) (by kernel_rfl) (by kernel_rfl) (by kernel_rfl) (fun W w1 h hb => ⟨kc hb h.1, kc hb h.2.1, kc hb h.2.2.1, kc hb h.2.2.2.1, kc hb h.2.2.2.2.1, kc hb h.2.2.2.2.2.1, h.2.2.2.2.2.2.trans (hb.mono h.2.2.2.2.2.2.size)⟩) ?_ ?_ ?_
      · intro k hk
        simp only [List.mem_cons, List.not_mem_nil, or_false] at hk
        rcases hk with rfl | rfl | rfl | rfl | rfl | rfl | rfl | rfl | rfl | rfl | rfl <;> first | exact trivial | exact kWh_fine | exact kAnsB_fine _
      · exact ⟨by go_simp, by go_simp, by go_simp, by go_simp, by go_simp, by go_simp, Below.drew hI0⟩
      (try simp only [List.append_eq, List.cons_append, List.nil_append, List.toList_toArray, List.take_succ_cons, List.take_zero, List.drop_succ_cons, List.drop_zero])
      (iterate 4 (refine PlanR.val ?_ ?_ ?_; (· rfl); (· (intro W hSw; (try dsimp only at hSw); go_simp; all_goals (first | (with_reducible rfl) | (constructor <;> (with_reducible rfl))))); intro _ _; (try simp only [Act.put, List.setIfInBounds_toArray, List.set_cons_zero, List.set_cons_succ])))
      refine PlanR.any ?_ ?_ ?_
      · rfl
      · intro W hSw _
        (try dsimp only at hSw)
        go_simp
        refine ⟨rfl, (wnew_c W).mono ?_⟩
        rintro _ u ⟨wb, rfl, hw, hwl, hb⟩
        exact ⟨_, rfl, hb, wb, rfl, hw, hwl⟩
      rintro ⟨wv, lo1, hi1⟩ hok1
      (try simp only [Act.put, List.setIfInBounds_toArray, List.set_cons_zero, List.set_cons_succ])
      refine PlanR.any ?_ ?_ ?_
      · rfl
      · intro W hSw hKn
        obtain ⟨wb, hwv, hw, -⟩ : ∃ wb, wv = .pointer (some ⟨wb, 0, none⟩) ∧ Pw wb wh0 W ∧ lo1 ≤ wb := hKn 4 (by decide) (by kernel_rfl)
        subst hwv
        (try dsimp only at hSw)
        go_simp
        refine ⟨rfl, (HNEW.out wb W).mono ?_⟩
        rintro _ u ⟨rfl, hb⟩
        exact ⟨_, rfl, hb, rfl⟩
      rintro ⟨_, lo2, hi2⟩ rfl
      (try simp only [Act.put, List.setIfInBounds_toArray, List.set_cons_zero, List.set_cons_succ])
      (iterate 5 (refine PlanR.val ?_ ?_ ?_; (· rfl); (· (intro W hSw; (try dsimp only at hSw); go_simp; all_goals (first | (with_reducible rfl) | (constructor <;> (with_reducible rfl))))); intro _ _; (try simp only [Act.put, List.setIfInBounds_toArray, List.set_cons_zero, List.set_cons_succ])))
      refine PlanR.done ?_
      intro u5 GG
      have hB5 : Below wr.heap.size wr u5 := GG.s.2.2.2.2.2.2
      have HEND := Lib.hid (Below.trans HBW.out (hB5.mono HBW.out.size))
      clear GG hB5 hok1
      go_wp2
      go_ret
      exact ⟨rfl, HEND.out⟩
set_option maxRecDepth 100000 in
set_option maxHeartbeats 8000000 in
theorem made13_long (s : Su) (lv pv sv : Value) (w : World) (h : InS w.heap.size w lv pv sv s) (hL : Laid w) (hn : 65536 < s.pub.length ∨ 65536 < s.sec.length) :
    Calls Tryz.prog 8 #[.agg (suA lv pv sv s.T)] w fun e w' => e = .returned (.pointer none) ∧ Below w.heap.size w w' := by
  have hlt0 := hL.lt
  obtain ⟨p1, c1, rfl⟩ := h.p.1.form
  obtain ⟨p2, c2, rfl⟩ := h.s.1.form
  have HPN := Lib.hid (fun W => pnew_long s.pub.length s.sec.length p1 p2 c1 c2 hn W)
  obtain ⟨cs, T, pub, sec⟩ := s
  dsimp only at *
  generalize pub.length = np at *
  generalize sec.length = ns at *
  clear h hn hL
  unfold suA
  go_enter Tryz.func8, Tryz.ntmps8
  go_wp2_with fail
  obtain ⟨w1, hw1⟩ : ∃ W, W = w.alloc (Obj.cells #[lv, .int .i64 T.l, .int .i64 T.c, .bool T.r, .bool T.a, .bool T.s, .bool T.g, .slice p1 np c1, .slice p2 ns c2] 27) := ⟨_, rfl⟩
  have HB0 := Lib.hid (show Below w.heap.size w w1 from by rw [hw1]; go_grown)
  have k7 : w1.cell? ⟨w.heap.size, 7, none⟩ = some (.slice p1 np c1) := by rw [hw1]; go_simp; first | done | rfl
  have k8 : w1.cell? ⟨w.heap.size, 8, none⟩ = some (.slice p2 ns c2) := by rw [hw1]; go_simp; first | done | rfl
  have hz1 : w1.heap.size = w.heap.size + 1 := by rw [hw1]; simp
  rw [← hw1]
  clear hw1
  refine (newp_c w1 (by omega)).mono ?_
  rintro _ u ⟨rfl, hb, hm⟩
  have c7 := kc hb k7
  have c8 := kc hb k8
  have HB1 := Lib.hid (Below.trans HB0.out (hb.mono (by omega)))
  have hbu := klt c7
  have hzu := HB1.out.size
  clear hb hm k7 k8 HB0
  go_wp2_with fail
  refine (HPN.out u).mono ?_
  rintro _ u2 ⟨rfl, hb⟩
  have HB2 := Lib.hid (Below.trans HB1.out (hb.mono hzu))
  clear hb HB1 c7 c8
  go_wp2
  go_ret
  exact ⟨rfl, HB2.out⟩
end Go.Proofs.YtcnejgilmciljaaGreatDoor
set_option linter.unusedSimpArgs false
set_option linter.unusedVariables false
namespace Go.Proofs.YtcnejgilmciljaaGreatDoor
open Go.RowKit Go.PlainAid

set_option maxRecDepth 100000 in
set_option maxHeartbeats 2000000 in
theorem bytes13_c (l : List Int) (hl : l.length ≤ 100000) (v1 v2 : Value) (w : World) (h1 : HoldsW bE 1 w v1 l) (h2 : HoldsW bE 1 w v2 l) :
    Calls Tryz.prog 30 #[v1, v2] w fun e w' => e = .returned (.bool true) ∧ Below w.heap.size w w' := by
  obtain ⟨p1, c1, rfl⟩ := h1.form
  obtain ⟨p2, c2, rfl⟩ := h2.form
  have H1 := Lib.hid h1
  have H2 := Lib.hid h2
  obtain ⟨n, hn⟩ : ∃ n, l.length = n := ⟨_, rfl⟩
  rw [hn] at hl ⊢
  have HN := Lib.hid hn
  have HB := Lib.hid (Below.refl w.heap.size w)
  clear h1 h2 hn
  go_enter Tryz.func30, Tryz.ntmps30
  go_wp2_with fail
  go_loopg [5] n (fun kx s5 wr => ∃ k : Nat, s5 = .int .i64 k ∧ k ≤ n ∧ n - k ≤ kx ∧ Hid (Below w.heap.size w wr))
  case atStart => exact ⟨0, by simp, Nat.zero_le _, by omega, HB⟩
  case round =>
    obtain ⟨k, rfl, hk, hkx, HBr⟩ := hrel
    by_cases hlt : k < n
    · have hkl : k < l.length := by have := HN.out; omega
      obtain ⟨g1, o1, cap1, e1, _, hc1⟩ := H1.out.some (by omega)
      obtain ⟨g2, o2, cap2, e2, _, hc2⟩ := H2.out.some (by omega)
      obtain ⟨rfl, -, rfl⟩ := Value.slice.inj e1
      obtain ⟨rfl, -, rfl⟩ := Value.slice.inj e2
      have x1 := hc1 k _ (List.getElem?_eq_getElem hkl) 0 _ rfl
      have x2 := hc2 k _ (List.getElem?_eq_getElem hkl) 0 _ rfl
      rw [Nat.mul_one, Nat.add_zero] at x1 x2
      generalize l[k] = X at *
      have hg1 := klt x1
      have hg2 := klt x2
      have hB := HBr.out
      have x1 := kc hB x1
      have x2 := kc hB x2
      have hl1 := klt x1
      have hl2 := klt x2
      have hin : (0 : Int) ≤ (k : Int) ∧ (k : Int) < (n : Int) := by omega
      clear e1 e2 hc1 hc2 hkl
      have hp_0 := x1
      have hq_0 := x2
      clear x1 x2
      go_wp2_with fail
      refine wp_region_plan (fun w' => w'.cell? ⟨g1, o1 + k, none⟩ = some (.int .u8 X) ∧ w'.cell? ⟨g2, o2 + k, none⟩ = some (.int .u8 X) ∧ Below w.heap.size w w') (by kernel_rfl) (by kernel_rfl) (by kernel_rfl) ?_ ?_
      · (try dsimp only)
        refine ⟨?_, ?_, ?_⟩ <;> first | (go_simp; done) | (simp [*]; done) | go_grown
      repeat (first
        | (refine Plan.val (v := ?_) ?_ ?_ ?_; rotate_left; (· rfl); (· (intro W hSw; (try dsimp only at hSw); go_simp; all_goals (first | (with_reducible rfl) | (constructor <;> (with_reducible rfl)) | (rw [if_neg (by omega)]; done) | (rw [if_neg (by omega)]; with_reducible rfl)))); (try simp only [Act.put, List.setIfInBounds_toArray, List.set_cons_zero, List.set_cons_succ]))
        | (refine Plan.no ?_ ?_; (· rfl); (try simp only [Act.put, List.setIfInBounds_toArray, List.set_cons_zero, List.set_cons_succ])))
      refine Plan.done ?_
      intro u T
      (try dsimp only at T)
      obtain ⟨hp_0, hq_0, hB⟩ := T
      have hsz := hB.size
      have hlp := klt hp_0
      have hlq := klt hq_0
      obtain ⟨hnp0, hnp1, hkp1, hnp2, hkp2⟩ := ap0 hlp
      obtain ⟨hnq0, hnq1, hkq1, hnq2, hkq2⟩ := ap0 hlq
      have HB2 := Lib.hid hB
      go_wp2
      go_roundg (n - (k + 1))
      case measure => omega
      case rel => exact ⟨k + 1, by go_num, by omega, by omega, HB2⟩
    · have hge : (n : Int) ≤ (k : Int) := by omega
      go_wp2
      go_ret
      exact ⟨rfl, HBr.out⟩
end Go.Proofs.YtcnejgilmciljaaGreatDoor
set_option linter.unusedSimpArgs false
set_option linter.unusedVariables false
namespace Go.Proofs.YtcnejgilmciljaaGreatDoor
open Go.RowKit Go.PlainAid

set_option maxRecDepth 100000 in
theorem out_b_nil (w : World) : Calls Tryz.prog 31 #[.pointer none] w fun e w' => e = .returned (.slice none 0 0) ∧ Below w.heap.size w w' := by
  go_enter Tryz.func31, Tryz.ntmps31
  go_wp2
  go_ret
  exact ⟨rfl, by go_grown⟩
set_option maxRecDepth 100000 in
/-- What went out, in a slice of the caller's own. -/
theorem out_b (pb : Nat) (S : Po) (hS : Fit S) (F G : Nat → Prop) (w : World) (h : PO pb S F G w) :
    Calls Tryz.prog 31 #[.pointer (some ⟨pb, 0, none⟩)] w fun e w' => ∃ v', e = .returned v' ∧ w'.ownsRow w.heap.size 5 1 v' S.out.length (S.out.flatMap bE) ∧ Below w.heap.size w w' := by
  obtain ⟨x, y, a, b, c, h, rfl, rfl⟩ := h
  have hlt := h.hold.lt
  obtain ⟨hc, ho⟩ := h.at0.1
  have hl : S.out.length ≤ 100000 := by have h1 := hS.log; have h2 := hS.out; have h3 := hS.kept; have h4 := hS.told; omega
  have HC := Lib.hid (clone_b S.out hl _ w (HoldsW.own bE_len ho))
  obtain ⟨p, ca, rfl⟩ := own_form ho
  clear h ho hS hl
  generalize S.out.length = n at *
  go_enter Tryz.func31, Tryz.ntmps31
  go_wp2_with fail
  refine (HC.out).mono ?_
  rintro _ u ⟨v', rfl, hr, hb⟩
  have HR := Lib.hid (And.intro hr hb)
  obtain ⟨p', c', rfl⟩ := own_form hr
  clear hr hb
  go_wp2
  go_ret
  exact ⟨_, rfl, HR.out⟩
set_option maxRecDepth 100000 in
set_option maxHeartbeats 1000000 in
theorem clonei_b (pb o : Nat) (F : Nat → Prop) (l : List (Int)) (hl : l.length ≤ 100000) (v : Value) (w : World) (h : Inq bE 1 pb o F v l w) :
    Calls Tryz.prog 89 #[.pointer (some ⟨pb, o, none⟩)] w fun e w' => ∃ v', e = .returned (.agg #[v']) ∧ w'.ownsRow w.heap.size 5 1 v' l.length (l.flatMap bE) ∧ Below w.heap.size w w' := by
  have HC := Lib.hid (fun W (hW : Below w.heap.size w W) => clone_b l hl _ W (h.h.below hW))
  obtain ⟨p0, c0, rfl⟩ := h.h.form
  have hp_0 := h.c
  have hlt := klt hp_0
  obtain ⟨q1, q2, q3, q4, q5⟩ := ap0 hlt
  generalize l.length = n at *
  clear h
  go_enter Tryz.func89, Tryz.ntmps89
  go_wp2_with fail
  refine (HC.out _ (by go_grown)).mono ?_
  rintro _ u ⟨v', rfl, hr, hb⟩
  have hz := hb.size
  simp only [World.size_alloc] at hz
  have s0 : u.cell? ⟨w.heap.size, 0, none⟩ = some (.slice none 0 0) := kc hb (by go_simp; first | done | rfl)
  have f0 : u.frozen? ⟨w.heap.size, 0, none⟩ = false := kfz hb (by simp) (by go_simp)
  have hws : w.heap.size < u.heap.size := by omega
  have HB := Lib.hid (kb ((Below.refl w.heap.size w).alloc (Nat.le_refl _) (.cells #[.slice none 0 0] 123)) hb)
  have HR := Lib.hid hr
  obtain ⟨p', c', rfl⟩ := own_form hr
  clear hr hb hz
  go_wp2
  refine bodyPost_ret (v := .agg #[.slice p' n c']) (by simp [results, Tryz.results89, go_sem, s0] <;> first | done | rfl) rfl ?_
  refine ⟨_, rfl, ?_, HB.out.setCell ?_ _⟩
  · exact own_low (ownsRow_setCell_below HR.out (by simp) _) (by simp)
  · simp
set_option maxRecDepth 100000 in
set_option maxHeartbeats 1000000 in
theorem clonei_k (pb o : Nat) (F : Nat → Prop) (l : List (Int × Int)) (hl : l.length ≤ 100000) (v : Value) (w : World) (h : Inq kE 2 pb o F v l w) :
    Calls Tryz.prog 90 #[.pointer (some ⟨pb, o, none⟩)] w fun e w' => ∃ v', e = .returned (.agg #[v']) ∧ w'.ownsRow w.heap.size 49 2 v' l.length (l.flatMap kE) ∧ Below w.heap.size w w' := by
  have HC := Lib.hid (fun W (hW : Below w.heap.size w W) => clone_k l hl _ W (h.h.below hW))
  obtain ⟨p0, c0, rfl⟩ := h.h.form
  have hp_0 := h.c
  have hlt := klt hp_0
  obtain ⟨q1, q2, q3, q4, q5⟩ := ap0 hlt
  generalize l.length = n at *
  clear h
  go_enter Tryz.func90, Tryz.ntmps90
  go_wp2_with fail
  refine (HC.out _ (by go_grown)).mono ?_
  rintro _ u ⟨v', rfl, hr, hb⟩
  have hz := hb.size
  simp only [World.size_alloc] at hz
  have s0 : u.cell? ⟨w.heap.size, 0, none⟩ = some (.slice none 0 0) := kc hb (by go_simp; first | done | rfl)
  have f0 : u.frozen? ⟨w.heap.size, 0, none⟩ = false := kfz hb (by simp) (by go_simp)
  have hws : w.heap.size < u.heap.size := by omega
  have HB := Lib.hid (kb ((Below.refl w.heap.size w).alloc (Nat.le_refl _) (.cells #[.slice none 0 0] 125)) hb)
  have HR := Lib.hid hr
  obtain ⟨p', c', rfl⟩ := own_form hr
  clear hr hb hz
  go_wp2
  refine bodyPost_ret (v := .agg #[.slice p' n c']) (by simp [results, Tryz.results90, go_sem, s0] <;> first | done | rfl) rfl ?_
  refine ⟨_, rfl, ?_, HB.out.setCell ?_ _⟩
  · exact own_low (ownsRow_setCell_below HR.out (by simp) _) (by simp)
  · simp
end Go.Proofs.YtcnejgilmciljaaGreatDoor
