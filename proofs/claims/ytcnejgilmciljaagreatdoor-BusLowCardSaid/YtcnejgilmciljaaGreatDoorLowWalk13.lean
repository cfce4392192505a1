/-
  BusLow, whole (genlow13.py writes it).
-/
import Derived.Test.YtcnejgilmciljaaGreatDoorTurned13
import Derived.Test.YtcnejgilmciljaaGreatDoorTurnWalk13
set_option linter.unusedSimpArgs false
set_option linter.unusedVariables false
namespace Go.Proofs.YtcnejgilmciljaaGreatDoor
open Go.RowKit Go.PlainAid

set_option maxRecDepth 100000 in
set_option maxHeartbeats 32000000 in
theorem low_walk13 {BO : Nat → Bs → Thing} (K : BusL BO) (s : Su) (lv pv sv : Value) (by_ : Int) (l : List Op13) (v : Value) (hby : 0 ≤ by_ ∧ by_ ≤ 255) (w : World) (h : InS w.heap.size w lv pv sv s) (hL : Laid w) (hv : HoldsW opE 4 w v l) (hg : ∀ x ∈ l, opG x) (hl : l.length ≤ 9223372036854775807)
    (hlt : 0 < l.length → ∀ g, v.ownBlock = some g → g < w.heap.size) :
    Calls Tryz.prog 4 #[.agg (suA lv pv sv s.T), .int .u8 by_, v] w fun e w' => e = .returned (.bool true) ∧ Below w.heap.size w w' := by
  have HK := Lib.hid K
  have HL := Lib.hid hL
  have HMade := Lib.hid (fun W (hW : Below w.heap.size w W) => made_any K.k s lv pv sv W ⟨(h.below hW).c.widen hW.size, h.cl, h.ck, (h.below hW).p, (h.below hW).s⟩ (hL.below hW))
  have HFew := Lib.hid (fun W (hW : Below w.heap.size w W) => few13_c w.heap.size s lv pv sv W (h.below hW) hW.size)
  have HTurn := Lib.hid (fun (hf : fewS s = true) W (hW : Below w.heap.size w W) => turned13_c by_ hby s lv pv sv W ⟨(h.below hW).c.widen hW.size, h.cl, h.ck, (h.below hW).p, (h.below hW).s⟩ (few_len hf).2.2.1 (few_len hf).2.2.2 (few_len hf).2.1)
  have HMade2 := Lib.hid (fun lv' sv' W (hW : Below w.heap.size w W) (hI : InS W.heap.size W lv' pv sv' (turnS by_ s)) => made_any K.k (turnS by_ s) lv' pv sv' W hI (hL.below hW))
  have HLX := Lib.hid (lowX_set (s := s) ⟨fun x hx => ⟨(h.ck x hx).2.1, (h.ck x hx).2.2.2⟩, h.s.2.1⟩ hby)
  have HAwake := Lib.hid (fun W (hW : Laid W) => awake13_c K.k W hW)
  have HBy := Lib.hid hby
  obtain ⟨p, c, rfl⟩ := hv.form
  obtain ⟨n, hn⟩ : ∃ n, l.length = n := ⟨_, rfl⟩
  rw [hn] at hl hv hlt ⊢
  have HV := Lib.hid hv
  have HN := Lib.hid hn
  have HG := Lib.hid hg
  have HLT := Lib.hid hlt
  have hlt0 := hL.lt
  clear h hL hv hn hg hlt hby
  unfold suA at *
  go_enter Tryz.func4, Tryz.ntmps4
  go_wp2_with fail
  obtain ⟨w1, hw1⟩ : ∃ W, W = w.alloc (Obj.cells #[lv, .int .i64 s.T.l, .int .i64 s.T.c, .bool s.T.r, .bool s.T.a, .bool s.T.s, .bool s.T.g, pv, sv] 27) := ⟨_, rfl⟩
  have HC0 := Lib.hid (show ∀ i v, (#[lv, .int .i64 s.T.l, .int .i64 s.T.c, .bool s.T.r, .bool s.T.a, .bool s.T.s, .bool s.T.g, pv, sv] : Array Value)[i]? = some v → w1.cell? ⟨w.heap.size, i, none⟩ = some v from fun i v hv => by
    rw [hw1, cell_of_row _ _ _ _ _ _ (heap_alloc_new w (.cells #[lv, .int .i64 s.T.l, .int .i64 s.T.c, .bool s.T.r, .bool s.T.a, .bool s.T.s, .bool s.T.g, pv, sv] 27))]
    exact hv)
  have HB0 := Lib.hid (show Below w.heap.size w w1 from by rw [hw1]; go_grown)
  have hz1 : w1.heap.size = w.heap.size + 1 := by rw [hw1]; simp
  rw [← hw1]
  clear hw1
  obtain ⟨ff, hff⟩ : ∃ f, fewS s = f := ⟨_, rfl⟩
  rw [hff] at HFew
  have HFF := Lib.hid hff
  clear hff
  refine (HFew.out w1 HB0.out).mono ?_
  rintro _ u2 ⟨rfl, hb⟩
  have HB2 := Lib.hid (Below.trans HB0.out (hb.mono (by omega)))
  have HC2 := Lib.hid (fun i v hv => kc hb (HC0.out i v hv))
  have hzu := hb.size
  clear hb HC0 HB0 HFew
  cases ff
  · clear HMade HTurn HMade2
    go_wp2_with fail
    refine (HAwake.out _ (HL.out.keep (HB2.out.block 0 hlt0))).mono ?_
    rintro _ z ⟨rfl, hb⟩
    have HZ := Lib.hid (Below.trans HB2.out (hb.mono HB2.out.size))
    clear hb
    go_wp2
    go_ret
    exact ⟨rfl, HZ.out⟩
  by_cases h60 : 60 < n
  · have hd60 : decide ((60 : Int) < (n : Int)) = true := decide_eq_true (by omega)
    clear HMade HTurn HMade2
    go_wp2_with fail
    refine (HAwake.out _ (HL.out.keep (HB2.out.block 0 hlt0))).mono ?_
    rintro _ z ⟨rfl, hb⟩
    have HZ := Lib.hid (Below.trans HB2.out (hb.mono HB2.out.size))
    clear hb
    go_wp2
    go_ret
    exact ⟨rfl, HZ.out⟩
  have hd60 : decide ((60 : Int) < (n : Int)) = false := decide_eq_false (by omega)
  have HTurn := Lib.hid (HTurn.out HFF.out)
  have q0 := HC2.out 0 _ rfl
  have q1 := HC2.out 1 _ rfl
  have q2 := HC2.out 2 _ rfl
  have q3 := HC2.out 3 _ rfl
  have q4 := HC2.out 4 _ rfl
  have q5 := HC2.out 5 _ rfl
  have q6 := HC2.out 6 _ rfl
  have q7 := HC2.out 7 _ rfl
  have q8 := HC2.out 8 _ rfl
  have hqq := klt q0
  go_wp2_with fail
  refine (HMade.out u2 HB2.out).mono ?_
  rintro e u ⟨hb, hres⟩
  have HB3 := Lib.hid (Below.trans HB2.out (hb.mono HB2.out.size))
  have HC3 := Lib.hid (fun i v hv => kc hb (HC2.out i v hv))
  have hzu3 := hb.size
  clear q0 q1 q2 q3 q4 q5 q6 q7 q8 hqq hb
  have q0 := HC3.out 0 _ rfl
  have q1 := HC3.out 1 _ rfl
  have q2 := HC3.out 2 _ rfl
  have q3 := HC3.out 3 _ rfl
  have q4 := HC3.out 4 _ rfl
  have q5 := HC3.out 5 _ rfl
  have q6 := HC3.out 6 _ rfl
  have q7 := HC3.out 7 _ rfl
  have q8 := HC3.out 8 _ rfl
  have hqq := klt q0
  rcases hres with ⟨bb, F, G, rfl, ho, hg, hT, h1, h2⟩ | ⟨rfl, hno⟩
  rotate_left
  · go_wp2_with fail
    refine (HTurn.out u HB3.out).mono ?_
    rintro _ u4 ⟨lv', sv', rfl, hin, hb⟩
    have HB4 := Lib.hid (Below.trans HB3.out (hb.mono HB3.out.size))
    have HM2 := Lib.hid (HMade2.out lv' sv' u4 HB4.out hin)
    clear hin hb q0 q1 q2 q3 q4 q5 q6 q7 q8 hqq
    go_wp2_with fail
    refine HM2.out.mono ?_
    rintro e u5 ⟨hb, hres⟩
    have HB5 := Lib.hid (Below.trans HB4.out (hb.mono HB4.out.size))
    rcases hres with ⟨cb, F2, G2, rfl, ho2, hg2, hT2, h3, h4⟩ | ⟨rfl, hno2⟩
    · exact absurd hT2 (hno HFF.out)
    clear hb hno hno2 HM2 HB4 HB3
    go_wp2_with fail
    refine (HAwake.out _ (HL.out.keep (HB5.out.block 0 hlt0))).mono ?_
    rintro _ z ⟨rfl, hb⟩
    have HZ := Lib.hid (Below.trans HB5.out (hb.mono HB5.out.size))
    clear hb
    go_wp2
    go_ret
    exact ⟨rfl, HZ.out⟩
  have HO := Lib.hid ho
  have HGl := Lib.hid hg
  have HRm := Lib.hid (suQ_room s hT h1 h2)
  clear ho hg h1 h2
  go_wp2_with fail
  refine (HTurn.out u HB3.out).mono ?_
  rintro _ u4 ⟨lv', sv', rfl, hin, hb⟩
  have HB4 := Lib.hid (Below.trans HB3.out (hb.mono HB3.out.size))
  have HO4 := Lib.hid ((HK.out.k.frm _ _).below HO.out hb)
  have hz4 := hb.size
  have HM2 := Lib.hid (HMade2.out lv' sv' u4 HB4.out hin)
  clear hin hb q0 q1 q2 q3 q4 q5 q6 q7 q8 hqq
  go_wp2_with fail
  refine HM2.out.mono ?_
  rintro e u5 ⟨hb, hres⟩
  rcases hres with ⟨cb, F2, G2, rfl, ho2, hg2, hT2, h3, h4⟩ | ⟨rfl, hno2⟩
  rotate_left
  · exact absurd hT (hno2 (by rw [turnS_few]; exact HFF.out))
  have HB5 := Lib.hid (Below.trans HB4.out (hb.mono HB4.out.size))
  have HRm2 := Lib.hid (suQ_room (turnS by_ s) hT2 h3 h4)
  have hN : w.heap.size ≤ u2.heap.size := by omega
  have hz5 := hb.size
  have HI5 := Lib.hid (show TwoB BO u2.heap.size w bb cb (suQ s) (suQ (turnS by_ s)) F G F2 G2 u5 from
    ⟨(HK.out.k.frm _ _).below HO4.out hb, ho2, (Apart.fresh (HK.out.k.frm _ _) HO4.out hg2 (fun k hk => (HK.out.k.frm _ _).sub ho2 k hk)).symm, HB5.out, fun k hk => HGl.out k ((HK.out.k.frm _ _).sub HO.out k hk), fun k hk => by have := hg2 k ((HK.out.k.frm _ _).sub ho2 k hk); omega⟩)
  have hN5 : u2.heap.size ≤ u5.heap.size := by omega
  clear hb ho2 hg2 h3 h4 hT hT2 HO HGl HM2 HO4 HB4 HB3 HB2 HC2 HC3 HMade HMade2 HTurn hz4 hz5 hzu3 hzu
  go_wp2_with fail
  refine (HK.out.low bb cb _ _ F G F2 G2 _ HLX.out.q HRm.out.may HRm2.out.may HI5.out.o HI5.out.q).mono ?_
  rintro _ u6 ⟨rfl, hb⟩
  have HI6 := Lib.hid (HI5.out.below HK.out.k hb)
  have hN6 : u2.heap.size ≤ u6.heap.size := Nat.le_trans hN5 hb.size
  clear hb HI5 hN5 HB5
  go_wp2_with fail
  go_loopg [9] n (fun kx s9 wr => ∃ (k : Nat) (B C : Bs) (F G F2 G2 : Nat → Prop), s9 = .int .i64 k ∧ k ≤ n ∧ n - k ≤ kx ∧ u2.heap.size ≤ wr.heap.size ∧ Hid (TwoB BO u2.heap.size w bb cb B C F G F2 G2 wr) ∧ Hid (LowX B C) ∧ Hid (Room (100 - k) B ∧ Room (100 - k) C))
  case atStart => exact ⟨0, suQ s, suQ (turnS by_ s), F, G, F2, G2, by simp, Nat.zero_le _, by omega, hN6, HI6, HLX, Lib.hid ⟨HRm.out.less (by omega), HRm2.out.less (by omega)⟩⟩
  case round =>
    clear HI6 HRm HRm2 HLX hN6
    obtain ⟨k, B, C, F, G, F2, G2, rfl, hk, hkx, hNr, HI, HX, HR⟩ := hrel
    have HMB := Lib.hid HR.out.1.may
    have HMC := Lib.hid HR.out.2.may
    by_cases hlk : k < n
    · have hk1 : k < l.length := by have := HN.out; omega
      have hd : decide ((k : Int) < (n : Int)) = true := decide_eq_true (by omega)
      have hin : (0 : Int) ≤ (k : Int) ∧ (k : Int) < (n : Int) := by omega
      have hw2 : IntKind.i64.wrap ((k : Int) + 1) = (k : Int) + 1 := IntWalk.i64_in _ (by omega)
      have HR1 := Lib.hid (show Room (100 - (k + 1) + 1) B ∧ Room (100 - (k + 1) + 1) C from by have := HR.out; rw [show 100 - k = (100 - (k + 1)) + 1 by omega] at this; exact this)
      obtain ⟨g, o, cap, e1, hcap, hcell⟩ := HV.out.some (by omega)
      obtain ⟨rfl, -, rfl⟩ := Value.slice.inj e1
      have hgl0 := HLT.out (by omega) g rfl
      have hx0 := hcell k _ (List.getElem?_eq_getElem hk1)
      have hxg := HG.out _ (List.getElem_mem hk1)
      generalize l[k] = A at *
      have HA := Lib.hid (show OpL g (o + k * 4) A.wr A.a A.v A.t wr from ⟨kc HI.out.b (hx0 0 _ rfl), kc HI.out.b (hx0 1 _ rfl), kc HI.out.b (hx0 2 _ rfl), kc HI.out.b (hx0 3 _ rfl)⟩)
      clear e1 hcell hx0 hk1
      obtain ⟨wt, xa, xv, xt⟩ := A
      obtain ⟨hxv, hxt, hxa⟩ := hxg
      dsimp only at hxv hxt hxa HA
      have HNg := Lib.hid (And.intro (show ¬ F g from fun hf => by have := HI.out.f g hf; omega) (show ¬ F2 g from fun hf => by have := HI.out.f2 g hf; omega))
      obtain ⟨x0, x1, x2, x3⟩ := HA.out
      have hgl := klt x0
      cases wt
      · have hstep := HK.out.k.read bb B F G xa wr hxa HMB.out (HI.out.laid HL.out) HI.out.o
        have HC := Lib.hid (fun U hU1 hU2 => HK.out.k.read cb C F2 G2 xa U hxa HMC.out hU1 hU2)
        obtain ⟨hsm, hee⟩ := HX.out.rd xa
        have HX1 := Lib.hid (HX.out.read xa)
        have HRr := Lib.hid (And.intro (HR1.out.1.read xa) (HR1.out.2.read xa))
        unfold TEnd rdBV at hstep HC
        obtain ⟨⟨V, T', E⟩, hX⟩ : ∃ X, rdB (memV B.M) B.T B.S B.W xa = X := ⟨_, rfl⟩
        obtain ⟨⟨V2, T2, E2⟩, hY⟩ : ∃ X, rdB (memV C.M) C.T C.S C.W xa = X := ⟨_, rfl⟩
        rw [hX] at hstep hsm hee
        rw [hY] at HC hsm hee
        dsimp only at hstep HC hsm hee
        subst hee
        have HSm := Lib.hid (fun W => taints_c V T' V2 T2 W)
        rw [hsm] at HSm
        have HStep := Lib.hid hstep
        generalize rdQ B xa = B' at *
        generalize rdQ C xa = C' at *
        clear hstep hX hY hsm
        go_wp2_with fail
        refine HStep.out.mono ?_
        rintro _ u7 ⟨rfl, F1, G1, ho, hM⟩
        have HI7 := Lib.hid (HI.out.move HK.out.k hN hNr ho hM)
        have hz7 := hM.fr.size
        have x0 := hM.fr.cell x0 HNg.out.1
        have x1 := hM.fr.cell x1 HNg.out.1
        have hgl7 := klt x0
        clear ho hM HStep HI HA x2 x3 hgl
        go_wp2_with fail
        obtain ⟨u8, hu8⟩ : ∃ W, W = u7.alloc (Obj.cells #[Value.int .u8 V, Value.int .u8 T'] 49) := ⟨_, rfl⟩
        have hbz : Below u7.heap.size u7 u8 := by rw [hu8]; go_grown
        have y0 : u8.cell? ⟨u7.heap.size, 0, none⟩ = some (.int .u8 V) := by rw [hu8]; go_simp; first | done | rfl
        have y1 : u8.cell? ⟨u7.heap.size, 1, none⟩ = some (.int .u8 T') := by rw [hu8]; go_simp; first | done | rfl
        rw [← hu8]
        have hz8 := hbz.size
        have HI8 := Lib.hid (HI7.out.below HK.out.k hbz)
        have hny : ¬ F2 u7.heap.size := HI7.out.newC HK.out.k (Nat.le_refl _)
        refine (HC.out _ (HI8.out.laid HL.out) HI8.out.q).mono ?_
        rintro _ u9 ⟨rfl, F3, G3, hc, hM⟩
        have HI9 := Lib.hid (HI8.out.moveC HK.out.k hN (by omega) hc hM)
        have hz9 := hM.fr.size
        have y0 := hM.fr.cell y0 hny
        have y1 := hM.fr.cell y1 hny
        have hly := klt y0
        clear hc hM HC HI7 HI8 hny hbz hu8 x0 x1 hgl7
        go_wp2_with fail
        have hbz : Below u9.heap.size u9 (u9.alloc (Obj.cells #[Value.int .u8 V2, Value.int .u8 T2] 49)) := by go_grown
        refine (HSm.out _).mono ?_
        rintro _ u10 ⟨rfl, hb⟩
        have hbt := Below.trans hbz (hb.mono hbz.size)
        have HI10 := Lib.hid (HI9.out.below HK.out.k hbt)
        have hz10 := hbt.size
        clear hb hbz hbt HI9 y0 y1 hly
        go_wp2
        go_roundg (n - (k + 1))
        case measure => omega
        case rel => exact ⟨k + 1, B', C', F1, G1, F3, G3, by go_num, by omega, by omega, by omega, HI10, HX1, HRr⟩
      · by_cases hcon : xa = 32776 ∧ xt ≠ 0
        · obtain ⟨hc1, hc2⟩ := hcon
          have e1 : (xa == 32776) = true := by simpa using hc1
          have e2 : decide (0 < xt) = true := decide_eq_true (by omega)
          have HKp := Lib.hid (And.intro (HR1.out.1.less (Nat.le_succ _)) (HR1.out.2.less (Nat.le_succ _)))
          clear hc1 hc2
          go_wp2
          go_roundg (n - (k + 1))
          case measure => omega
          case rel => exact ⟨k + 1, B, C, F, G, F2, G2, by go_num, by omega, by omega, hNr, HI, HX, HKp⟩
        · have hq : (xa == 32776) = false ∨ ((xa == 32776) = true ∧ decide (0 < xt) = false) := by
            by_cases h4 : xa = 32776
            · refine .inr ⟨by simpa using h4, ?_⟩
              have : xt = 0 := Classical.byContradiction fun h => hcon ⟨h4, h⟩
              simp [this]
            · exact .inl (by simpa using h4)
          have hturn := turn_swap (v := xv) (t := xt) (x := by_) hxv hxt HBy.out
          have HX1 := Lib.hid (HX.out.write xa xv xt _ hxv hxt hturn hcon)
          have HQ := Lib.hid (fun W (hW : Below wr.heap.size wr W) => HK.out.k.write bb B F G xa xv xt W hxa HMB.out hxv hxt ((HI.out.laid HL.out).below hW) ((HK.out.k.frm _ _).below HI.out.o hW))
          have HD := Lib.hid (fun W hU1 hU2 => HK.out.k.write cb C F2 G2 xa (bits .xor .u8 xv (bits .and .u8 by_ xt)) xt W hxa HMC.out hturn.b hxt hU1 hU2)
          have HOt := Lib.hid (fun W => other13_c xv xt by_ W)
          have HRr := Lib.hid (And.intro (HR1.out.1.write xa xv xt hxv) (HR1.out.2.write xa (bits .xor .u8 xv (bits .and .u8 by_ xt)) xt hturn.b))
          rw [← HX.out.wr] at HD
          unfold TEnd wrBV at HQ HD
          obtain ⟨⟨RU, RE⟩, hX⟩ : ∃ X, wrB B.S xa xt = X := ⟨_, rfl⟩
          rw [hX] at HQ HD
          dsimp only at HQ HD
          generalize bits .xor .u8 xv (bits .and .u8 by_ xt) = V' at *
          generalize wrQ B xa xv xt = B' at *
          generalize wrQ C xa V' xt = C' at *
          clear hX hturn hcon HR HR1
          rcases hq with hq | ⟨hq, hq2⟩
          all_goals
            go_wp2_with fail
            refine wp_region_planXD 9 17 11 (fun bo W => OpL g (o + k * 4) true xa xv xt W ∧ bif bo then (∃ F1 G1, BO bb B' F1 G1 W ∧ Mv F G F1 G1 wr W) else Below wr.heap.size wr W) (by decide) (by kernel_rfl) (by kernel_rfl) (by kernel_rfl) (by kernel_rfl) ?_ ?_
            · (try dsimp only)
              refine ⟨⟨x0, x1, x2, x3⟩, ?_⟩
              (try simp only [cond_false]); exact Below.drew (Below.refl _ _)
            (try simp only [List.append_eq, List.cons_append, List.nil_append, List.toList_toArray, List.take_succ_cons, List.take_zero, List.drop_succ_cons, List.drop_zero])
            repeat (first
              | (refine PlanX.val (v := ?_) (by decide) ?_ ?_ ?_; rotate_left; (· rfl); (· (intro bo W hSw; obtain ⟨⟨bx0, bx1, bx2, bx3⟩, -⟩ := hSw; go_simp; all_goals (first | (with_reducible rfl) | (constructor <;> (with_reducible rfl))))); (try simp only [Act.put, List.setIfInBounds_toArray, List.set_cons_zero, List.set_cons_succ]))
              | (refine PlanX.turn (v := .tuple #[.int .i64 RU, .int .i64 RE]) (f := ?_) (args := ?_) (by decide) ?_ ?_ ?_ ?_; rotate_left 2; (· rfl); (· (intro W hSw; obtain ⟨⟨bx0, bx1, bx2, bx3⟩, -⟩ := hSw; go_simp; all_goals (first | (with_reducible rfl) | (constructor <;> (with_reducible rfl))))); (· (intro W hSw; exact (HQ.out W hSw.2).mono fun e w' ⟨h1, F1, G1, h2, h3⟩ => ⟨h1, hSw.1.fr h3.fr HNg.out.1, F1, G1, h2, (Mv.ofBelow F G hSw.2).trans h3⟩)); (try simp only [Act.put, List.setIfInBounds_toArray, List.set_cons_zero, List.set_cons_succ])))
            refine PlanX.done ?_
            intro U1 T
            obtain ⟨⟨z0, z1, z2, z3⟩, F1, G1, ho, hM⟩ := T
            have HI6 := Lib.hid (HI.out.move HK.out.k hN hNr ho hM)
            have hz6 := hM.fr.size
            have hgl6 := klt z0
            clear ho hM
            go_wp2_with fail
            refine wp_region_planXD 9 19 13 (fun bo W => OpL g (o + k * 4) true xa xv xt W ∧ bif bo then (∃ F3 G3, BO cb C' F3 G3 W ∧ Mv F2 G2 F3 G3 U1 W) else Below U1.heap.size U1 W) (by decide) (by kernel_rfl) (by kernel_rfl) (by kernel_rfl) (by kernel_rfl) ?_ ?_
            · (try dsimp only)
              refine ⟨⟨z0, z1, z2, z3⟩, ?_⟩
              (try simp only [cond_false]); exact Below.drew (Below.refl _ _)
            (try simp only [List.append_eq, List.cons_append, List.nil_append, List.toList_toArray, List.take_succ_cons, List.take_zero, List.drop_succ_cons, List.drop_zero])
            repeat (first
              | (refine PlanX.val (v := ?_) (by decide) ?_ ?_ ?_; rotate_left; (· rfl); (· (intro bo W hSw; obtain ⟨⟨bx0, bx1, bx2, bx3⟩, -⟩ := hSw; go_simp; all_goals (first | (with_reducible rfl) | (constructor <;> (with_reducible rfl))))); (try simp only [Act.put, List.setIfInBounds_toArray, List.set_cons_zero, List.set_cons_succ]))
              | (refine PlanX.call (v := .agg #[.int .u8 V', .int .u8 xt]) (f := 19) (args := ?_) (by decide) ?_ ?_ ?_ ?_; rotate_left; (· rfl); (· (intro bo W hSw; obtain ⟨⟨bx0, bx1, bx2, bx3⟩, -⟩ := hSw; go_simp; all_goals (first | (with_reducible rfl) | (constructor <;> (with_reducible rfl))))); (· (intro bo W hSw; refine (HOt.out W).mono fun e w' ⟨h1, h2⟩ => ⟨h1, hSw.1.below h2, ?_⟩; cases bo; (· exact Below.trans hSw.2 (h2.mono hSw.2.size)); (· obtain ⟨F3, G3, h3, h4⟩ := hSw.2; exact ⟨F3, G3, (HK.out.k.frm _ _).below h3 h2, h4.below h2⟩))); (try simp only [Act.put, List.setIfInBounds_toArray, List.set_cons_zero, List.set_cons_succ]))
              | (refine PlanX.turn (v := .tuple #[.int .i64 RU, .int .i64 RE]) (f := ?_) (args := ?_) (by decide) ?_ ?_ ?_ ?_; rotate_left 2; (· rfl); (· (intro W hSw; obtain ⟨⟨bx0, bx1, bx2, bx3⟩, -⟩ := hSw; go_simp; all_goals (first | (with_reducible rfl) | (constructor <;> (with_reducible rfl))))); (· (intro W hSw; exact (HD.out W ((HI6.out.laid HL.out).below hSw.2) ((HK.out.k.frm _ _).below HI6.out.q hSw.2)).mono fun e w' ⟨h1, F3, G3, h2, h3⟩ => ⟨h1, hSw.1.fr h3.fr HNg.out.2, F3, G3, h2, (Mv.ofBelow F2 G2 hSw.2).trans h3⟩)); (try simp only [Act.put, List.setIfInBounds_toArray, List.set_cons_zero, List.set_cons_succ])))
            refine PlanX.done ?_
            intro U2 T
            obtain ⟨-, F3, G3, hc, hM⟩ := T
            have HI8 := Lib.hid (HI6.out.moveC HK.out.k hN (by omega) hc hM)
            have hz8 := hM.fr.size
            clear hc hM z0 z1 z2 z3 hgl6 x0 x1 x2 x3 hgl
            go_wp2_with fail
            refine (HK.out.low bb cb _ _ F1 G1 F3 G3 _ HX1.out.q HRr.out.1.may HRr.out.2.may HI8.out.o HI8.out.q).mono ?_
            rintro _ U3 ⟨rfl, hb⟩
            have HI9 := Lib.hid (HI8.out.below HK.out.k hb)
            have hz9 := hb.size
            clear hb
            go_wp2
            go_roundg (n - (k + 1))
            case measure => omega
            case rel => exact ⟨k + 1, B', C', F1, G1, F3, G3, by go_num, by omega, by omega, by omega, HI9, HX1, HRr⟩
    · have hge : (n : Int) ≤ (k : Int) := by omega
      have hd : decide ((k : Int) < (n : Int)) = false := decide_eq_false (by omega)
      have HLw := Lib.hid (HK.out.low bb cb _ _ F G F2 G2 wr HX.out.q HMB.out HMC.out HI.out.o HI.out.q)
      go_wp2_with fail
      refine HLw.out.mono ?_
      rintro _ u7 ⟨rfl, hb⟩
      have HB7 := Lib.hid (HI.out.below HK.out.k hb).b
      clear hb HI HLw
      go_wp2_with fail
      refine (HAwake.out _ (HL.out.keep (HB7.out.block 0 hlt0))).mono ?_
      rintro _ z ⟨rfl, hb⟩
      have HZ := Lib.hid (Below.trans HB7.out (hb.mono HB7.out.size))
      clear hb
      go_wp2
      go_ret
      exact ⟨rfl, HZ.out⟩
end Go.Proofs.YtcnejgilmciljaaGreatDoor
