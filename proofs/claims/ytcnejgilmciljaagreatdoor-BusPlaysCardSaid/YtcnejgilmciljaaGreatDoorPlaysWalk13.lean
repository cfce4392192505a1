/-
  BusPlays, whole.
-/
import Derived.Test.YtcnejgilmciljaaGreatDoorPlays13
import Derived.Test.YtcnejgilmciljaaGreatDoorPlanXD
set_option linter.unusedSimpArgs false
set_option linter.unusedVariables false
namespace Go.Proofs.YtcnejgilmciljaaGreatDoor
open Go.RowKit Go.PlainAid

def OpC (g o : Nat) (b : Bool) (a v t : Int) (W : World) : Prop := W.cell? ⟨g, o, none⟩ = some (.bool b) ∧ W.cell? ⟨g, o + 1, none⟩ = some (.int .i64 a) ∧ W.cell? ⟨g, o + 2, none⟩ = some (.int .u8 v) ∧ W.cell? ⟨g, o + 3, none⟩ = some (.int .u8 t)
theorem OpC.below {g o : Nat} {b : Bool} {a v t : Int} {w u : World} (h : OpC g o b a v t w) (hb : Below w.heap.size w u) : OpC g o b a v t u := ⟨kc hb h.1, kc hb h.2.1, kc hb h.2.2.1, kc hb h.2.2.2⟩
theorem OpC.fr {g o : Nat} {b : Bool} {a v t : Int} {H : Nat → Prop} {w u : World} (h : OpC g o b a v t w) (hf : Fr H w u) (hn : ¬ H g) : OpC g o b a v t u := ⟨hf.cell h.1 hn, hf.cell h.2.1 hn, hf.cell h.2.2.1 hn, hf.cell h.2.2.2 hn⟩
set_option maxRecDepth 100000 in
set_option maxHeartbeats 32000000 in
theorem plays_walk {BO : Nat → Bs → Thing} (K : BusK BO) (s : Su) (lv pv sv : Value) (l : List Op13) (v : Value) (w : World) (h : InS w.heap.size w lv pv sv s) (hL : Laid w) (hv : HoldsW opE 4 w v l) (hg : ∀ x ∈ l, opG x) (hl : l.length ≤ 9223372036854775807)
    (hlt : 0 < l.length → ∀ g, v.ownBlock = some g → g < w.heap.size) :
    Calls Tryz.prog 3 #[.agg (suA lv pv sv s.T), v] w fun e w' => e = .returned (.bool true) ∧ Below w.heap.size w w' := by
  have HK := Lib.hid K
  have HL := Lib.hid hL
  have HMade := Lib.hid (fun W (hW : Below w.heap.size w W) => made_any K s lv pv sv W ⟨(h.below hW).c.widen hW.size, h.cl, h.ck, (h.below hW).p, (h.below hW).s⟩ (hL.below hW))
  have HFew := Lib.hid (fun W (hW : Below w.heap.size w W) => few13_c w.heap.size s lv pv sv W (h.below hW) hW.size)
  have HPlain := Lib.hid (fun (hf : fewS s = true) W (hW : Below w.heap.size w W) => plain13_c s lv pv sv W ⟨(h.below hW).c.widen hW.size, h.cl, h.ck, (h.below hW).p, (h.below hW).s⟩ (few_len hf).2.2.2 (few_len hf).2.2.1 (few_len hf).1 (few_len hf).2.1)
  have HAwake := Lib.hid (fun W (hW : Laid W) => awake13_c K W hW)
  have HMay := Lib.hid (fun W => mayd_c s.T W)
  obtain ⟨p, c, rfl⟩ := hv.form
  obtain ⟨n, hn⟩ : ∃ n, l.length = n := ⟨_, rfl⟩
  rw [hn] at hl hv hlt ⊢
  have HV := Lib.hid hv
  have HN := Lib.hid hn
  have HG := Lib.hid hg
  have HLT := Lib.hid hlt
  have hlt0 := hL.lt
  clear h hL hv hn hg hlt
  unfold suA at *
  go_enter Tryz.func3, Tryz.ntmps3
  go_wp2_with fail
  obtain ⟨w1, hw1⟩ : ∃ W, W = w.alloc (Obj.cells #[lv, .int .i64 s.T.l, .int .i64 s.T.c, .bool s.T.r, .bool s.T.a, .bool s.T.s, .bool s.T.g, pv, sv] 27) := ⟨_, rfl⟩
  have HC0 := Lib.hid (show ∀ i v, (#[lv, .int .i64 s.T.l, .int .i64 s.T.c, .bool s.T.r, .bool s.T.a, .bool s.T.s, .bool s.T.g, pv, sv] : Array Value)[i]? = some v → w1.cell? ⟨w.heap.size, i, none⟩ = some v from fun i v hv => by
    rw [hw1, cell_of_row _ _ _ _ _ _ (heap_alloc_new w (.cells #[lv, .int .i64 s.T.l, .int .i64 s.T.c, .bool s.T.r, .bool s.T.a, .bool s.T.s, .bool s.T.g, pv, sv] 27))]
    exact hv)
  have HB0 := Lib.hid (show Below w.heap.size w w1 from by rw [hw1]; go_grown)
  have hz1 : w1.heap.size = w.heap.size + 1 := by rw [hw1]; simp
  rw [← hw1]
  clear hw1
  obtain ⟨ff, hff⟩ : ∃ f, fewS s = f := ⟨_, rfl⟩
  rw [hff] at HFew
  have HFF := Lib.hid hff
  clear hff
  refine (HFew.out w1 HB0.out).mono ?_
  rintro _ u2 ⟨rfl, hb⟩
  have HB2 := Lib.hid (Below.trans HB0.out (hb.mono (by omega)))
  have HC2 := Lib.hid (fun i v hv => kc hb (HC0.out i v hv))
  have hzu := hb.size
  clear hb HC0 HB0 HFew
  cases ff
  · clear HMade HPlain
    go_wp2_with fail
    refine (HAwake.out _ (HL.out.keep (HB2.out.block 0 hlt0))).mono ?_
    rintro _ z ⟨rfl, hb⟩
    have HZ := Lib.hid (Below.trans HB2.out (hb.mono HB2.out.size))
    clear hb
    go_wp2
    go_ret
    exact ⟨rfl, HZ.out⟩
  by_cases h60 : 60 < n
  · have hd60 : decide ((60 : Int) < (n : Int)) = true := decide_eq_true (by omega)
    clear HMade HPlain
    go_wp2_with fail
    refine (HAwake.out _ (HL.out.keep (HB2.out.block 0 hlt0))).mono ?_
    rintro _ z ⟨rfl, hb⟩
    have HZ := Lib.hid (Below.trans HB2.out (hb.mono HB2.out.size))
    clear hb
    go_wp2
    go_ret
    exact ⟨rfl, HZ.out⟩
  have hd60 : decide ((60 : Int) < (n : Int)) = false := decide_eq_false (by omega)
  have HPlain := Lib.hid (HPlain.out HFF.out)
  have q0 := HC2.out 0 _ rfl
  have q1 := HC2.out 1 _ rfl
  have q2 := HC2.out 2 _ rfl
  have q3 := HC2.out 3 _ rfl
  have q4 := HC2.out 4 _ rfl
  have q5 := HC2.out 5 _ rfl
  have q6 := HC2.out 6 _ rfl
  have q7 := HC2.out 7 _ rfl
  have q8 := HC2.out 8 _ rfl
  have hqq := klt q0
  go_wp2_with fail
  refine (HMade.out u2 HB2.out).mono ?_
  rintro e u ⟨hb, hres⟩
  have HB3 := Lib.hid (Below.trans HB2.out (hb.mono HB2.out.size))
  have HC3 := Lib.hid (fun i v hv => kc hb (HC2.out i v hv))
  have hzu3 := hb.size
  clear q0 q1 q2 q3 q4 q5 q6 q7 q8 hqq
  have q0 := HC3.out 0 _ rfl
  have q1 := HC3.out 1 _ rfl
  have q2 := HC3.out 2 _ rfl
  have q3 := HC3.out 3 _ rfl
  have q4 := HC3.out 4 _ rfl
  have q5 := HC3.out 5 _ rfl
  have q6 := HC3.out 6 _ rfl
  have q7 := HC3.out 7 _ rfl
  have q8 := HC3.out 8 _ rfl
  have hqq := klt q0
  rcases hres with ⟨bb, F, G, rfl, ho, hg, hT, h1, h2⟩ | ⟨rfl, hno⟩
  rotate_left
  · have hmay : mayT s.T = false := by
      cases e : mayT s.T
      · rfl
      · exact absurd ((mayT_iff _).1 e) (hno HFF.out)
    rw [hmay] at HMay
    clear hb hno hmay
    go_wp2_with fail
    refine (HPlain.out _ HB3.out).mono ?_
    rintro _ u4 ⟨rb, F2, G2, rfl, hd, -, -, hb⟩
    obtain ⟨m, x, y, a, b, c1, d, hvw⟩ := hd.view
    have t1 := hvw.t.c 0 _ rfl
    have t2 := hvw.t.c 1 _ rfl
    have t3 := hvw.t.c 2 _ rfl
    have t4 := hvw.t.c 3 _ rfl
    have t5 := hvw.t.c 4 _ rfl
    have t6 := hvw.t.c 5 _ rfl
    dsimp only [suD] at t1 t2 t3 t4 t5 t6
    have hlr := klt t1
    have HB4 := Lib.hid (Below.trans HB3.out (hb.mono HB3.out.size))
    clear hb hd hvw q0 q1 q2 q3 q4 q5 q6 q7 q8 hqq HPlain
    go_wp2_with fail
    refine (HMay.out _).mono ?_
    rintro _ u5 ⟨rfl, hb⟩
    have HB5 := Lib.hid (Below.trans HB4.out (hb.mono HB4.out.size))
    clear hb t1 t2 t3 t4 t5 t6 hlr
    go_wp2_with fail
    refine (HAwake.out _ (HL.out.keep (HB5.out.block 0 hlt0))).mono ?_
    rintro _ z ⟨rfl, hb⟩
    have HZ := Lib.hid (Below.trans HB5.out (hb.mono HB5.out.size))
    clear hb
    go_wp2
    go_ret
    exact ⟨rfl, HZ.out⟩
  rw [(mayT_iff _).2 hT] at HMay
  have HO := Lib.hid ho
  have HRel := Lib.hid (su_rel s HFF.out hT)
  have HGl := Lib.hid hg
  clear ho hg hT h1 h2
  go_wp2_with fail
  refine (HPlain.out _ HB3.out).mono ?_
  rintro _ u4 ⟨rb, F2, G2, rfl, hd, hg2, hl2, hb4⟩
  obtain ⟨m, x, y, a, b, c1, d, hvw⟩ := hd.view
  have t1 := hvw.t.c 0 _ rfl
  have t2 := hvw.t.c 1 _ rfl
  have t3 := hvw.t.c 2 _ rfl
  have t4 := hvw.t.c 3 _ rfl
  have t5 := hvw.t.c 4 _ rfl
  have t6 := hvw.t.c 5 _ rfl
  dsimp only [suD] at t1 t2 t3 t4 t5 t6
  have hlr := klt t1
  have HB4 := Lib.hid (Below.trans HB3.out (hb4.mono HB3.out.size))
  have HI4 := Lib.hid (show PlaysI BO u2.heap.size w bb rb (suQ s) (suD s) F G F2 G2 u4 from
    ⟨(HK.out.frm _ _).below HO.out hb4, hd, (Apart.fresh (HK.out.frm _ _) HO.out hg2 (fun k hk => (DB.frm _ _).sub hd k hk)).symm, HB4.out, fun k hk => HGl.out k ((HK.out.frm _ _).sub HO.out k hk), fun k hk => by have := hg2 k ((DB.frm _ _).sub hd k hk); omega, Nat.le_trans hzu3 hb4.size⟩)
  have hN : w.heap.size ≤ u2.heap.size := by omega
  clear hb hb4 hd hvw q0 q1 q2 q3 q4 q5 q6 q7 q8 hqq HPlain HMade HO HGl HC2 HC3 hg2 hl2 HB2 HB3 hzu3 hzu
  go_wp2_with fail
  refine (HMay.out _).mono ?_
  rintro _ u5 ⟨rfl, hb⟩
  have HI5 := Lib.hid (HI4.out.below HK.out hb)
  clear hb t1 t2 t3 t4 t5 t6 hlr HI4 HB4 HMay
  go_wp2_with fail
  go_loopg [7] n (fun kx s7 wr => ∃ (k : Nat) (Q : Bs) (B : Bd) (M : Int → Int × Int) (F G F' G' : Nat → Prop), s7 = .int .i64 k ∧ k ≤ n ∧ n - k ≤ kx ∧ Hid (PlaysI BO u2.heap.size w bb rb Q B F G F' G' wr) ∧ Hid (RelB (100 - k) k Q B M))
  case atStart => exact ⟨0, suQ s, suD s, suM s, F, G, F2, G2, by simp, Nat.zero_le _, by omega, HI5, Lib.hid (HRel.out.less (by omega))⟩
  case round =>
    clear HI5 HRel
    obtain ⟨k, Q, B, M, F, G, F', G', rfl, hk, hkx, HI, HR⟩ := hrel
    by_cases hlk : k < n
    · have hk1 : k < l.length := by have := HN.out; omega
      have hd : decide ((k : Int) < (n : Int)) = true := decide_eq_true (by omega)
      have hin : (0 : Int) ≤ (k : Int) ∧ (k : Int) < (n : Int) := by omega
      have hw2 : IntKind.i64.wrap ((k : Int) + 1) = (k : Int) + 1 := IntWalk.i64_in _ (by omega)
      obtain ⟨g, o, cap, e1, hcap, hcell⟩ := HV.out.some (by omega)
      obtain ⟨rfl, -, rfl⟩ := Value.slice.inj e1
      have hgl0 := HLT.out (by omega) g rfl
      have hx0 := hcell k _ (List.getElem?_eq_getElem hk1)
      have hxg := HG.out _ (List.getElem_mem hk1)
      generalize l[k] = A at *
      have HX := Lib.hid (show OpC g (o + k * 4) A.wr A.a A.v A.t wr from ⟨kc HI.out.b (hx0 0 _ rfl), kc HI.out.b (hx0 1 _ rfl), kc HI.out.b (hx0 2 _ rfl), kc HI.out.b (hx0 3 _ rfl)⟩)
      clear e1 hcell hx0 hk1
      obtain ⟨wt, xa, xv, xt⟩ := A
      obtain ⟨hxv, hxt, hxa⟩ := hxg
      dsimp only at hxv hxt hxa
      have HMayQ := Lib.hid (HR.out.2.2.2.1.may)
      have HMayB := Lib.hid (HR.out.may (by omega))
      have HNg := Lib.hid (And.intro (show ¬ F g from fun hf => by have := HI.out.f g hf; omega) (show ¬ F' g from fun hf => by have := HI.out.f' g hf; omega))
      dsimp only at HX
      obtain ⟨x0, x1, x2, x3⟩ := HX.out
      have hgl := klt x0
      have hR : RelB (100 - (k + 1) + 1) k Q B M := by have := HR.out; rw [show 100 - k = (100 - (k + 1)) + 1 by omega] at this; exact this
      cases wt
      · have HRd := Lib.hid (hR.read xa)
        have hstep := HK.out.read bb Q F G xa wr hxa HMayQ.out (HI.out.laid HL.out) HI.out.o
        rw [hR.rd] at hstep
        have HStepD := Lib.hid (fun U hU => dread_t rb B HMayB.out F' G' xa U hU)
        unfold TEnd rdBV at hstep HStepD
        obtain ⟨⟨V, T', E⟩, hX⟩ : ∃ X, rdB (atP B.L) B.T B.S B.W xa = X := ⟨_, rfl⟩
        rw [hX] at hstep HStepD
        dsimp only at hstep HStepD
        have HStep := Lib.hid hstep
        clear hstep hX hR
        go_wp2_with fail
        refine HStep.out.mono ?_
        rintro _ u6 ⟨rfl, F1, G1, ho, hM⟩
        have HI6 := Lib.hid (HI.out.stepP hN ho hM)
        have x0 := hM.fr.cell x0 HNg.out.1
        have x1 := hM.fr.cell x1 HNg.out.1
        have hgl6 := klt x0
        clear ho hM HStep HI HX x2 x3 hgl
        go_wp2_with fail
        obtain ⟨u7, hu7⟩ : ∃ W, W = u6.alloc (Obj.cells #[Value.int .u8 V, Value.int .u8 T'] 49) := ⟨_, rfl⟩
        have hbz : Below u6.heap.size u6 u7 := by rw [hu7]; go_grown
        have y0 : u7.cell? ⟨u6.heap.size, 0, none⟩ = some (.int .u8 V) := by rw [hu7]; go_simp; first | done | rfl
        have y1 : u7.cell? ⟨u6.heap.size, 1, none⟩ = some (.int .u8 T') := by rw [hu7]; go_simp; first | done | rfl
        rw [← hu7]
        have HI7 := Lib.hid (HI6.out.below HK.out hbz)
        have hny : ¬ F' u6.heap.size := fun hf => by have := (DB.frm _ _).lt HI6.out.d _ ((DB.frm _ _).sub HI6.out.d _ hf); omega
        refine (HStepD.out _ HI7.out.d).mono ?_
        rintro _ u8 ⟨rfl, F3, G3, hdb, hM⟩
        have HI8 := Lib.hid (HI7.out.stepD HK.out hN hdb hM)
        have y0 := hM.fr.cell y0 hny
        have y1 := hM.fr.cell y1 hny
        have hly := klt y0
        clear hdb hM HStepD HI6 HI7 hny hbz hu7 x0 x1 hgl6
        go_wp2
        have hbz : Below u8.heap.size u8 (u8.alloc (Obj.cells #[Value.int .u8 V, Value.int .u8 T'] 49)) := by go_grown
        have HI9 := Lib.hid (HI8.out.below HK.out hbz)
        go_roundg (n - (k + 1))
        case measure => omega
        case rel => exact ⟨k + 1, rdQ Q xa, rdD B xa, M, F1, G1, F3, G3, by go_num, by omega, by omega, HI9, HRd⟩
      · obtain ⟨M', hRw⟩ := hR.write xa xv xt hxv
        have HRw := Lib.hid hRw
        have HQ := Lib.hid (fun W (hW : Below wr.heap.size wr W) => HK.out.write bb Q F G xa xv xt W hxa HMayQ.out hxv hxt ((HI.out.laid HL.out).below hW) ((HK.out.frm _ _).below HI.out.o hW))
        have HD := Lib.hid (fun U hU => dwrite_t rb B HMayB.out F' G' xa xv xt hxv hxt U hU)
        rw [hR.wrS] at HQ
        unfold TEnd wrBV at HQ HD
        obtain ⟨⟨RU, RE⟩, hX⟩ : ∃ X, wrB B.S xa xt = X := ⟨_, rfl⟩
        rw [hX] at HQ HD
        dsimp only at HQ HD
        generalize wrQ Q xa xv xt = Q' at *
        generalize wrD B xa xv xt = B' at *
        clear hX hR hRw
        go_wp2_with fail
        refine wp_region_planXD 9 17 11 (fun bo W => OpC g (o + k * 4) true xa xv xt W ∧ bif bo then (∃ F1 G1, BO bb Q' F1 G1 W ∧ Mv F G F1 G1 wr W) else Below wr.heap.size wr W) (by decide) (by kernel_rfl) (by kernel_rfl) (by kernel_rfl) (by kernel_rfl) ?_ ?_
        · (try dsimp only)
          refine ⟨⟨x0, x1, x2, x3⟩, ?_⟩
          (try simp only [cond_false]); exact Below.drew (Below.refl _ _)
        (try simp only [List.append_eq, List.cons_append, List.nil_append, List.toList_toArray, List.take_succ_cons, List.take_zero, List.drop_succ_cons, List.drop_zero])
        repeat (first
          | (refine PlanX.val (v := ?_) (by decide) ?_ ?_ ?_; rotate_left; (· rfl); (· (intro bo W hSw; obtain ⟨⟨bx0, bx1, bx2, bx3⟩, -⟩ := hSw; go_simp; all_goals (first | (with_reducible rfl) | (constructor <;> (with_reducible rfl))))); (try simp only [Act.put, List.setIfInBounds_toArray, List.set_cons_zero, List.set_cons_succ]))
          | (refine PlanX.turn (v := .tuple #[.int .i64 RU, .int .i64 RE]) (f := ?_) (args := ?_) (by decide) ?_ ?_ ?_ ?_; rotate_left 2; (· rfl); (· (intro W hSw; obtain ⟨⟨bx0, bx1, bx2, bx3⟩, -⟩ := hSw; go_simp; all_goals (first | (with_reducible rfl) | (constructor <;> (with_reducible rfl))))); (· (intro W hSw; exact (HQ.out W hSw.2).mono fun e w' ⟨h1, F1, G1, h2, h3⟩ => ⟨h1, hSw.1.fr h3.fr HNg.out.1, F1, G1, h2, (Mv.ofBelow F G hSw.2).trans h3⟩)); (try simp only [Act.put, List.setIfInBounds_toArray, List.set_cons_zero, List.set_cons_succ])))
        refine PlanX.done ?_
        intro U1 T
        obtain ⟨⟨z0, z1, z2, z3⟩, F1, G1, ho, hM⟩ := T
        have HI6 := Lib.hid (HI.out.stepP hN ho hM)
        have hgl6 := klt z0
        clear ho hM HQ HI x0 x1 x2 x3 hgl HX
        go_wp2_with fail
        have HD := Lib.hid (fun W (hW : Below U1.heap.size U1 W) => HD.out W ((DB.frm _ _).below HI6.out.d hW))
        refine wp_region_planXD 9 17 11 (fun bo W => OpC g (o + k * 4) true xa xv xt W ∧ bif bo then (∃ F1 G1, DB rb B' F1 G1 W ∧ Mv F' G' F1 G1 U1 W) else Below U1.heap.size U1 W) (by decide) (by kernel_rfl) (by kernel_rfl) (by kernel_rfl) (by kernel_rfl) ?_ ?_
        · (try dsimp only)
          refine ⟨⟨z0, z1, z2, z3⟩, ?_⟩
          (try simp only [cond_false]); exact Below.drew (Below.refl _ _)
        (try simp only [List.append_eq, List.cons_append, List.nil_append, List.toList_toArray, List.take_succ_cons, List.take_zero, List.drop_succ_cons, List.drop_zero])
        repeat (first
          | (refine PlanX.val (v := ?_) (by decide) ?_ ?_ ?_; rotate_left; (· rfl); (· (intro bo W hSw; obtain ⟨⟨bx0, bx1, bx2, bx3⟩, -⟩ := hSw; go_simp; all_goals (first | (with_reducible rfl) | (constructor <;> (with_reducible rfl))))); (try simp only [Act.put, List.setIfInBounds_toArray, List.set_cons_zero, List.set_cons_succ]))
          | (refine PlanX.turn (v := .tuple #[.int .i64 RU, .int .i64 RE]) (f := ?_) (args := ?_) (by decide) ?_ ?_ ?_ ?_; rotate_left 2; (· rfl); (· (intro W hSw; obtain ⟨⟨bx0, bx1, bx2, bx3⟩, -⟩ := hSw; go_simp; all_goals (first | (with_reducible rfl) | (constructor <;> (with_reducible rfl))))); (· (intro W hSw; exact (HD.out W hSw.2).mono fun e w' ⟨h1, F1, G1, h2, h3⟩ => ⟨h1, hSw.1.fr h3.fr HNg.out.2, F1, G1, h2, (Mv.ofBelow F' G' hSw.2).trans h3⟩)); (try simp only [Act.put, List.setIfInBounds_toArray, List.set_cons_zero, List.set_cons_succ])))
        refine PlanX.done ?_
        intro U2 T
        obtain ⟨-, F3, G3, hdb, hM⟩ := T
        have HI8 := Lib.hid (HI6.out.stepD HK.out hN hdb hM)
        clear hdb hM HD HI6 z0 z1 z2 z3 hgl6
        go_wp2
        go_roundg (n - (k + 1))
        case measure => omega
        case rel => exact ⟨k + 1, Q', B', M', F1, G1, F3, G3, by go_num, by omega, by omega, HI8, HRw⟩
    · have hge : (n : Int) ≤ (k : Int) := by omega
      obtain ⟨rfl, hc, hr, hroom, hlen⟩ := HR.out
      have HSame := Lib.hid (same13_c HK.out bb rb B M hc hr hroom.may (by omega) F G F' G' wr (HI.out.laid HL.out) HI.out.o HI.out.d)
      have HBw := Lib.hid HI.out.b
      clear hc hr hroom hlen HI HR
      go_wp2_with fail
      refine HSame.out.mono ?_
      rintro _ u6 ⟨rfl, hb⟩
      have HB6 := Lib.hid (Below.trans HBw.out (hb.mono HBw.out.size))
      clear hb HSame HBw
      go_wp2_with fail
      refine (HAwake.out _ (HL.out.keep (HB6.out.block 0 hlt0))).mono ?_
      rintro _ z ⟨rfl, hb⟩
      have HZ := Lib.hid (Below.trans HB6.out (hb.mono HB6.out.size))
      clear hb
      go_wp2
      go_ret
      exact ⟨rfl, HZ.out⟩
end Go.Proofs.YtcnejgilmciljaaGreatDoor
