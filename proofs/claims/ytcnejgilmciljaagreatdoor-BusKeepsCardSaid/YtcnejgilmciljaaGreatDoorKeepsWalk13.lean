/-
  Layer 13's laws: BusKeeps (genk13.py writes it).
-/
import Derived.Test.YtcnejgilmciljaaGreatDoorTicks13
import Derived.Test.YtcnejgilmciljaaGreatDoorLoadp8
import Derived.Test.YtcnejgilmciljaaGreatDoorMemV13
set_option linter.unusedSimpArgs false
set_option linter.unusedVariables false
namespace Go.Proofs.YtcnejgilmciljaaGreatDoor
open Go.RowKit Go.PlainAid

theorem rdB_mem {M : Int → Int × Int} {T : Tm} {S : Po} {W : Wh} {a : Int} (h0 : 0 ≤ a) (h1 : a ≤ 65535) (hd : devB a = false) : rdB (memV M) T S W a = ((memV M a).1, (memV M a).2, 0) := by
  unfold rdB
  rw [if_neg (by omega), if_pos hd]
theorem rdQ_mem (Q : Bs) {a : Int} (h0 : 0 ≤ a) (h1 : a ≤ 65535) : (rdQ Q a).M = Q.M ∧ (rdQ Q a).n = Q.n + 1 := by
  unfold rdQ
  rw [if_neg (by omega)]
  exact ⟨rfl, rfl⟩
theorem wrQ_n (Q : Bs) (a v t : Int) : (wrQ Q a v t).n = if (wrB Q.S a t).2 ≠ 0 then Q.n else Q.n + 1 := by
  unfold wrQ
  split <;> rfl
set_option maxRecDepth 100000 in
set_option maxHeartbeats 8000000 in
theorem keeps_walk {BO : Nat → Bs → Thing} (K : BusL BO) (s : Su) (lv pv sv : Value) (o : Op13) (at_ : Int) (hgo : opG o) (hat : i64I at_) (w : World) (h : InS w.heap.size w lv pv sv s) (hL : Laid w) :
    Calls Tryz.prog 5 #[.agg (suA lv pv sv s.T), .agg #[.bool o.wr, .int .i64 o.a, .int .u8 o.v, .int .u8 o.t], .int .i64 at_] w fun e w' => e = .returned (.bool true) ∧ Below w.heap.size w w' := by
  have HK := Lib.hid K
  have HL := Lib.hid hL
  have HMade := Lib.hid (fun W (hW : Below w.heap.size w W) => made_any K.k s lv pv sv W ⟨(h.below hW).c.widen hW.size, h.cl, h.ck, (h.below hW).p, (h.below hW).s⟩ (hL.below hW))
  have HFew := Lib.hid (fun W (hW : Below w.heap.size w W) => few13_c w.heap.size s lv pv sv W (h.below hW) hW.size)
  have HAwake := Lib.hid (fun W (hW : Laid W) => awake13_c K.k W hW)
  have hlt0 := hL.lt
  have HBy := Lib.hid hgo
  have HAt := Lib.hid hat
  obtain ⟨ow, oa, ov, ot⟩ := o
  dsimp only at *
  clear h hL hgo hat
  unfold suA at *
  go_enter Tryz.func5, Tryz.ntmps5
  go_wp2_with fail
  obtain ⟨w1, hw1⟩ : ∃ W, W = (w.alloc (Obj.cells #[lv, .int .i64 s.T.l, .int .i64 s.T.c, .bool s.T.r, .bool s.T.a, .bool s.T.s, .bool s.T.g, pv, sv] 27)).alloc (Obj.cells #[.bool ow, .int .i64 oa, .int .u8 ov, .int .u8 ot] 51) := ⟨_, rfl⟩
  have x0 : w1.cell? ⟨w.heap.size + 1, 1, none⟩ = some (.int .i64 oa) := by rw [hw1]; go_simp; first | done | rfl
  have x1 : w1.cell? ⟨w.heap.size + 1, 2, none⟩ = some (.int .u8 ov) := by rw [hw1]; go_simp; first | done | rfl
  have x2 : w1.cell? ⟨w.heap.size + 1, 3, none⟩ = some (.int .u8 ot) := by rw [hw1]; go_simp; first | done | rfl
  have b0 : w1.cell? ⟨w.heap.size, 0, none⟩ = some lv := by rw [hw1]; go_simp; first | done | rfl
  have b1 : w1.cell? ⟨w.heap.size, 1, none⟩ = some (.int .i64 s.T.l) := by rw [hw1]; go_simp; first | done | rfl
  have b2 : w1.cell? ⟨w.heap.size, 2, none⟩ = some (.int .i64 s.T.c) := by rw [hw1]; go_simp; first | done | rfl
  have b3 : w1.cell? ⟨w.heap.size, 3, none⟩ = some (.bool s.T.r) := by rw [hw1]; go_simp; first | done | rfl
  have b4 : w1.cell? ⟨w.heap.size, 4, none⟩ = some (.bool s.T.a) := by rw [hw1]; go_simp; first | done | rfl
  have b5 : w1.cell? ⟨w.heap.size, 5, none⟩ = some (.bool s.T.s) := by rw [hw1]; go_simp; first | done | rfl
  have b6 : w1.cell? ⟨w.heap.size, 6, none⟩ = some (.bool s.T.g) := by rw [hw1]; go_simp; first | done | rfl
  have b7 : w1.cell? ⟨w.heap.size, 7, none⟩ = some pv := by rw [hw1]; go_simp; first | done | rfl
  have b8 : w1.cell? ⟨w.heap.size, 8, none⟩ = some sv := by rw [hw1]; go_simp; first | done | rfl
  have HB0 := Lib.hid (show Below w.heap.size w w1 from by rw [hw1]; go_grown)
  have hz1 : w1.heap.size = w.heap.size + 1 + 1 := by rw [hw1]; simp
  rw [← hw1]
  clear hw1
  refine (HMade.out w1 HB0.out).mono ?_
  rintro e u ⟨hb, hres⟩
  have HB := Lib.hid (Below.trans HB0.out (hb.mono (by omega)))
  have hzu := hb.size
  have b0 := kc hb b0
  have b1 := kc hb b1
  have b2 := kc hb b2
  have b3 := kc hb b3
  have b4 := kc hb b4
  have b5 := kc hb b5
  have b6 := kc hb b6
  have b7 := kc hb b7
  have b8 := kc hb b8
  have x0 := kc hb x0
  have x1 := kc hb x1
  have x2 := kc hb x2
  have hz0 := klt b0
  obtain ⟨ff, hff⟩ : ∃ f, fewS s = f := ⟨_, rfl⟩
  rw [hff] at HFew hres
  clear hff HMade HB0
  rcases hres with ⟨bb, F, G, rfl, ho, hg, hT, h1, h2⟩ | ⟨rfl, hno⟩
  rotate_left
  · have HNO := Lib.hid hno
    clear hno hb x0 x1 x2
    go_wp2_with fail
    refine (HFew.out _ HB.out).mono ?_
    rintro _ u2 ⟨rfl, hb⟩
    have HB' := Lib.hid (Below.trans HB.out (hb.mono HB.out.size))
    have b0 := kc hb b0
    have b1 := kc hb b1
    have b2 := kc hb b2
    have b3 := kc hb b3
    have b4 := kc hb b4
    have b5 := kc hb b5
    have b6 := kc hb b6
    have b7 := kc hb b7
    have b8 := kc hb b8
    have hz0 := klt b0
    clear HB hb
    have HB := HB'
    clear HB'
    cases ff
    · go_wp2_with fail
      refine (HFew.out _ HB.out).mono ?_
      rintro _ u3 ⟨rfl, hb⟩
      have HB' := Lib.hid (Below.trans HB.out (hb.mono HB.out.size))
      have b0 := kc hb b0
      have b1 := kc hb b1
      have b2 := kc hb b2
      have b3 := kc hb b3
      have b4 := kc hb b4
      have b5 := kc hb b5
      have b6 := kc hb b6
      have b7 := kc hb b7
      have b8 := kc hb b8
      have hz0 := klt b0
      clear HB hb
      have HB := HB'
      clear HB'
      go_wp2_with fail
      refine (HAwake.out _ (HL.out.keep (HB.out.block 0 hlt0))).mono ?_
      rintro _ z ⟨rfl, hb⟩
      have HZ := Lib.hid (Below.trans HB.out (hb.mono HB.out.size))
      clear hb
      go_wp2
      go_ret
      exact ⟨rfl, HZ.out⟩
    · have HMay := Lib.hid (fun W => mayd_c s.T W)
      rw [show mayT s.T = false from by
        cases e : mayT s.T
        · rfl
        · exact absurd ((mayT_iff _).1 e) (HNO.out rfl)] at HMay
      have HPl := Lib.hid (fun W => plain10_c s.T W)
      go_wp2_with fail
      refine (HFew.out _ HB.out).mono ?_
      rintro _ u3 ⟨rfl, hb⟩
      have HB' := Lib.hid (Below.trans HB.out (hb.mono HB.out.size))
      have b0 := kc hb b0
      have b1 := kc hb b1
      have b2 := kc hb b2
      have b3 := kc hb b3
      have b4 := kc hb b4
      have b5 := kc hb b5
      have b6 := kc hb b6
      have b7 := kc hb b7
      have b8 := kc hb b8
      have hz0 := klt b0
      clear HB hb
      have HB := HB'
      clear HB'
      go_wp2_with fail
      refine (HFew.out _ HB.out).mono ?_
      rintro _ u4 ⟨rfl, hb⟩
      have HB' := Lib.hid (Below.trans HB.out (hb.mono HB.out.size))
      have b0 := kc hb b0
      have b1 := kc hb b1
      have b2 := kc hb b2
      have b3 := kc hb b3
      have b4 := kc hb b4
      have b5 := kc hb b5
      have b6 := kc hb b6
      have b7 := kc hb b7
      have b8 := kc hb b8
      have hz0 := klt b0
      clear HB hb
      have HB := HB'
      clear HB'
      go_wp2_with fail
      refine (HPl.out _).mono ?_
      rintro _ u5 ⟨rfl, hb⟩
      have HB' := Lib.hid (Below.trans HB.out (hb.mono HB.out.size))
      clear HB hb b0 b1 b2 b3 b4 b5 b6 b7 b8 hz0
      have HB := HB'
      clear HB'
      go_wp2_with fail
      refine (HMay.out _).mono ?_
      rintro _ u6 ⟨rfl, hb⟩
      have HB' := Lib.hid (Below.trans HB.out (hb.mono HB.out.size))
      clear HB hb
      have HB := HB'
      clear HB'
      go_wp2_with fail
      refine (HAwake.out _ (HL.out.keep (HB.out.block 0 hlt0))).mono ?_
      rintro _ z ⟨rfl, hb⟩
      have HZ := Lib.hid (Below.trans HB.out (hb.mono HB.out.size))
      clear hb
      go_wp2
      go_ret
      exact ⟨rfl, HZ.out⟩
  · have HI := Lib.hid (show BusI BO w1.heap.size w bb (suQ s) F G u from ⟨ho, HB.out, fun k hk => hg k ((HK.out.k.frm _ _).sub ho k hk)⟩)
    have HGl := Lib.hid ((HK.out.k.frm _ _).lt ho)
    have HRm := Lib.hid (suQ_room s hT h1 h2)
    clear ho hg hT h1 h2 hb
    go_wp2_with fail
    refine (HFew.out _ HB.out).mono ?_
    rintro _ u2 ⟨rfl, hb⟩
    have HB' := Lib.hid (Below.trans HB.out (hb.mono HB.out.size))
    have b0 := kc hb b0
    have b1 := kc hb b1
    have b2 := kc hb b2
    have b3 := kc hb b3
    have b4 := kc hb b4
    have b5 := kc hb b5
    have b6 := kc hb b6
    have b7 := kc hb b7
    have b8 := kc hb b8
    have x0 := kc hb x0
    have x1 := kc hb x1
    have x2 := kc hb x2
    have hz0 := klt b0
    have HI' := Lib.hid (HI.out.below HK.out.k hb)
    clear HI
    have HI := HI'
    clear HI'
    have hzz := hb.size
    clear HB hb
    have HB := HB'
    clear HB'
    cases ff
    · go_wp2_with fail
      refine (HFew.out _ HB.out).mono ?_
      rintro _ u3 ⟨rfl, hb⟩
      have HB' := Lib.hid (Below.trans HB.out (hb.mono HB.out.size))
      have b0 := kc hb b0
      have b1 := kc hb b1
      have b2 := kc hb b2
      have b3 := kc hb b3
      have b4 := kc hb b4
      have b5 := kc hb b5
      have b6 := kc hb b6
      have b7 := kc hb b7
      have b8 := kc hb b8
      have hz0 := klt b0
      clear HB hb
      have HB := HB'
      clear HB'
      go_wp2_with fail
      refine (HAwake.out _ (HL.out.keep (HB.out.block 0 hlt0))).mono ?_
      rintro _ z ⟨rfl, hb⟩
      have HZ := Lib.hid (Below.trans HB.out (hb.mono HB.out.size))
      clear hb
      go_wp2
      go_ret
      exact ⟨rfl, HZ.out⟩
    · clear HFew b0 b1 b2 b3 b4 b5 b6 b7 b8 HB
      have hz0 := klt x0
      generalize suQ s = Q at *
      have HMem := Lib.hid (fun W hW => HK.out.k.memory bb Q F G W hW)
      have HCl := Lib.hid (fun W hW => HK.out.clone bb Q F G W HRm.out.s hW)
      have HCy := Lib.hid (fun W hW => HK.out.k.cycles bb Q F G W hW)
      go_wp2_with fail
      refine (HMem.out _ HI.out.o).mono ?_
      rintro _ v1 ⟨mb, mbb, rfl, hpm, hm1, hm2, hb⟩
      have HP := Lib.hid hpm
      have HI1 := Lib.hid (HI.out.below HK.out.k hb)
      have HG1 := Lib.hid (show ∀ k, G k → k < u2.heap.size from (HK.out.k.frm _ _).lt HI.out.o)
      have x0 := kc hb x0
      have x1 := kc hb x1
      have x2 := kc hb x2
      have hs1 := hb.size
      clear hpm hb HI HMem HGl
      go_wp2_with fail
      refine (HCl.out _ HI1.out.o).mono ?_
      rintro _ v2 ⟨cb, Fc, Gc, rfl, hc, hgc, -, hb⟩
      have HC := Lib.hid hc
      have HGc := Lib.hid hgc
      have HGcl := Lib.hid ((HK.out.k.frm _ _).lt hc)
      have HFc := Lib.hid ((HK.out.k.frm _ _).sub hc)
      have HP2 := Lib.hid (HP.out.below hb)
      have HI2 := Lib.hid (HI1.out.below HK.out.k hb)
      have x0 := kc hb x0
      have x1 := kc hb x1
      have x2 := kc hb x2
      have hs2 := hb.size
      have hpl := HP.out.lt
      have hpl2 := klt HP.out.c0
      clear hc hgc hb HP HI1 HCl
      go_wp2_with fail
      refine (HK.out.low bb cb Q Q F G Fc Gc _ (lowQ_refl Q) HRm.out.may HRm.out.may HI2.out.o HC.out).mono ?_
      rintro _ v3 ⟨rfl, hb⟩
      have HC3 := Lib.hid ((HK.out.k.frm _ _).below HC.out hb)
      have HP3 := Lib.hid (HP2.out.below hb)
      have HI3 := Lib.hid (HI2.out.below HK.out.k hb)
      have x0 := kc hb x0
      have x1 := kc hb x1
      have x2 := kc hb x2
      have hs3 := hb.size
      clear hb HC HP2 HI2
      go_wp2_with fail
      refine (HCy.out _ HI3.out.o).mono ?_
      rintro _ v4 ⟨rfl, hb⟩
      have HC4 := Lib.hid ((HK.out.k.frm _ _).below HC3.out hb)
      have HP4 := Lib.hid (HP3.out.below hb)
      have HI4 := Lib.hid (HI3.out.below HK.out.k hb)
      have x0 := kc hb x0
      have x1 := kc hb x1
      have x2 := kc hb x2
      have hxl := klt x0
      have hs4 := hb.size
      clear hb HC3 HP3 HI3
      have hwr := HK.out.k.write cb Q Fc Gc oa ov ot v4 HBy.out.2.2 HRm.out.may HBy.out.1 HBy.out.2.1 (HI4.out.laid HL.out) HC4.out
      have hwn := wrQ_n Q oa ov ot
      unfold TEnd wrBV at hwr
      obtain ⟨⟨RU, RE⟩, hR⟩ : ∃ X, wrB Q.S oa ot = X := ⟨_, rfl⟩
      rw [hR] at hwr hwn
      dsimp only at hwr hwn
      have HWr := Lib.hid hwr
      have HCyC := Lib.hid (fun F' G' W hW => HK.out.k.cycles cb (wrQ Q oa ov ot) F' G' W hW)
      rw [hwn] at HCyC
      generalize wrQ Q oa ov ot = Q1 at *
      have hqn := HRm.out.n
      obtain ⟨nn, hnn⟩ : ∃ n, Q.n = n := ⟨_, rfl⟩
      rw [hnn] at hqn HCy HCyC ⊢
      have hw1 : IntKind.i64.wrap (nn + 1) = nn + 1 := IntWalk.i64_in _ (by omega)
      have hw2 : IntKind.i64.wrap (nn + 2) = nn + 2 := IntWalk.i64_in _ (by omega)
      have HNN := Lib.hid hnn
      clear hwr hR hwn hnn
      go_wp2_with fail
      refine HWr.out.mono ?_
      rintro _ v5 ⟨rfl, Fd, Gd, hd, hM⟩
      have HD := Lib.hid hd
      have hfr := hM.fr
      have HI5 := Lib.hid (show BusI BO w1.heap.size w bb Q F G v5 from ⟨(HK.out.k.frm _ _).fr HI4.out.o hfr (fun k hk hf => by have := HGc.out k (HFc.out k hf); have := HG1.out k hk; omega), hM.lowB HI4.out.b (fun k hk => by have := HGc.out k (HFc.out k hk); omega) (Nat.le_refl _), HI4.out.f⟩)
      have HP5 := Lib.hid (HP4.out.keep (hfr.keep _ (by omega) (fun hf => by have := HGc.out _ (HFc.out _ hf); omega)) (hfr.keep _ (by omega) (fun hf => by have := HGc.out _ (HFc.out _ hf); omega)))
      have hs5 := hfr.size
      clear hd hM hfr HWr HC4 HP4 HI4 x0 x1 x2 hxl
      by_cases hE : RE = 0
      · subst hE
        rw [if_neg (by simp)] at HCyC
        go_wp2_with fail
        refine (HCyC.out Fd Gd _ HD.out).mono ?_
        rintro _ v6 ⟨rfl, hb⟩
        have HP6 := Lib.hid (HP5.out.below hb)
        have HI6 := Lib.hid (HI5.out.below HK.out.k hb)
        have hs6 := hb.size
        clear hb HP5 HI5 HCyC HD
        go_wp2_with fail
        refine (HCy.out _ HI6.out.o).mono ?_
        rintro _ v7 ⟨rfl, hb⟩
        have HP7 := Lib.hid (HP6.out.below hb)
        have HI7 := Lib.hid (HI6.out.below HK.out.k hb)
        have hs7 := hb.size
        clear hb HP6 HI6
        go_wp2_with fail
        refine (devr_c at_ _).mono ?_
        rintro _ v8 ⟨rfl, hb⟩
        have HP8 := Lib.hid (HP7.out.below hb)
        have HI8 := Lib.hid (HI7.out.below HK.out.k hb)
        have hs8 := hb.size
        have HB := Lib.hid HI8.out.b
        clear hb HP7 HI7
        obtain ⟨D, hD⟩ : ∃ D, devB at_ = D := ⟨_, rfl⟩
        rw [hD]
        cases D
        rotate_left
        · go_wp2_with fail
          refine (HAwake.out _ (HL.out.keep (HB.out.block 0 hlt0))).mono ?_
          rintro _ z ⟨rfl, hb⟩
          have HZ := Lib.hid (Below.trans HB.out (hb.mono HB.out.size))
          clear hb
          go_wp2
          go_ret
          exact ⟨rfl, HZ.out⟩
        by_cases h0 : at_ < 0
        · have d0 : decide (at_ < 0) = true := by simpa using h0
          go_wp2_with fail
          refine (HAwake.out _ (HL.out.keep (HB.out.block 0 hlt0))).mono ?_
          rintro _ z ⟨rfl, hb⟩
          have HZ := Lib.hid (Below.trans HB.out (hb.mono HB.out.size))
          clear hb
          go_wp2
          go_ret
          exact ⟨rfl, HZ.out⟩
        have d0 : decide (at_ < 0) = false := by simpa using h0
        by_cases h9 : 65535 < at_
        · have d9 : decide (65535 < at_) = true := by simpa using h9
          go_wp2_with fail
          refine (HAwake.out _ (HL.out.keep (HB.out.block 0 hlt0))).mono ?_
          rintro _ z ⟨rfl, hb⟩
          have HZ := Lib.hid (Below.trans HB.out (hb.mono HB.out.size))
          clear hb
          go_wp2
          go_ret
          exact ⟨rfl, HZ.out⟩
        have d9 : decide (65535 < at_) = false := by simpa using h9
        have HRd := Lib.hid (fun W hW hW2 => HK.out.k.read bb Q F G at_ W HAt.out HRm.out.may hW hW2)
        unfold TEnd rdBV at HRd
        rw [rdB_mem (by omega) (by omega) hD] at HRd
        have hrq := rdQ_mem Q (a := at_) (by omega) (by omega)
        have HR2 : Hid (Room 999999 (rdQ Q at_)) := Lib.hid (HRm.out.read at_)
        have HRd2 := Lib.hid (fun F' G' W hW hW2 => HK.out.k.read bb (rdQ Q at_) F' G' at_ W HAt.out HR2.out.may hW hW2)
        unfold TEnd rdBV at HRd2
        rw [rdB_mem (by omega) (by omega) hD, hrq.1] at HRd2
        have hrq2 := rdQ_mem (rdQ Q at_) (a := at_) (by omega) (by omega)
        have HCy2 := Lib.hid (fun F' G' W hW => HK.out.k.cycles bb (rdQ (rdQ Q at_) at_) F' G' W hW)
        rw [hrq2.2, hrq.2, HNN.out, show nn + 1 + 1 = nn + 2 by omega] at HCy2
        have HPr := Lib.hid (fun W hW hW2 => readp_c Q.M at_ mb mbb W hW hW2)
        rw [prM_memV Q.M at_ (by omega) (by omega) hD] at HPr
        have HPw := Lib.hid (fun W hW hW2 => writep_c Q.M at_ 9 9 mb mbb W hW hW2)
        dsimp only at HRd HRd2 HPr
        generalize rdQ (rdQ Q at_) at_ = Q3 at *
        generalize rdQ Q at_ = Q2 at *
        obtain ⟨⟨V, T'⟩, hV⟩ : ∃ X, memV Q.M at_ = X := ⟨_, rfl⟩
        rw [hV] at HRd HRd2 HPr
        dsimp only at HRd HRd2 HPr
        clear hV hrq hrq2 HCy HNN HB hD h0 h9
        go_wp2_with fail
        refine (HRd.out _ (HI8.out.laid HL.out) HI8.out.o).mono ?_
        rintro _ v9 ⟨rfl, F2, G2, ho, hM⟩
        have HI9 := Lib.hid (HI8.out.move (by omega) (by omega) ho hM)
        have HP9 := Lib.hid (HP8.out.keep (hM.fr.keep _ (by omega) (fun hf => by have := HG1.out _ ((HK.out.k.frm _ _).sub HI8.out.o _ hf); omega)) (hM.fr.keep _ (by omega) (fun hf => by have := HG1.out _ ((HK.out.k.frm _ _).sub HI8.out.o _ hf); omega)))
        have HG9 := Lib.hid (show ∀ k, G2 k → (k < u2.heap.size ∨ v8.heap.size ≤ k) ∧ k < v9.heap.size from fun k hk => ⟨(hM.g k hk).imp (fun h => HG1.out k h) id, (HK.out.k.frm _ _).lt ho k hk⟩)
        have hs9 := hM.fr.size
        clear ho hM HP8 HI8 HRd
        go_wp2_with fail
        obtain ⟨va, hva⟩ : ∃ W, W = v9.alloc (Obj.cells #[.int .u8 V, .int .u8 T'] 49) := ⟨_, rfl⟩
        have y0 : va.cell? ⟨v9.heap.size, 0, none⟩ = some (.int .u8 V) := by rw [hva]; go_simp; first | done | rfl
        have y1 : va.cell? ⟨v9.heap.size, 1, none⟩ = some (.int .u8 T') := by rw [hva]; go_simp; first | done | rfl
        have hba : Below v9.heap.size v9 va := by rw [hva]; go_grown
        have HPa := Lib.hid (HP9.out.below hba)
        have HIa := Lib.hid (HI9.out.below HK.out.k hba)
        rw [← hva]
        clear hva hba HP9 HI9
        refine (HPr.out _ HPa.out (HIa.out.laid HL.out)).mono ?_
        rintro _ vb ⟨rfl, hb⟩
        have HPb := Lib.hid (HPa.out.below hb)
        have HIb := Lib.hid (HIa.out.below HK.out.k hb)
        have y0 := kc hb y0
        have y1 := kc hb y1
        have hsb := hb.size
        have hyl := klt y0
        clear hb HPa HIa HPr
        go_wp2_with fail
        obtain ⟨vc, hvc⟩ : ∃ W, W = vb.alloc (Obj.cells #[.int .u8 V, .int .u8 T'] 49) := ⟨_, rfl⟩
        have z0 : vc.cell? ⟨vb.heap.size, 0, none⟩ = some (.int .u8 V) := by rw [hvc]; go_simp; first | done | rfl
        have z1 : vc.cell? ⟨vb.heap.size, 1, none⟩ = some (.int .u8 T') := by rw [hvc]; go_simp; first | done | rfl
        have hbc : Below vb.heap.size vb vc := by rw [hvc]; go_grown
        have HPc := Lib.hid (HPb.out.below hbc)
        have HIc := Lib.hid (HIb.out.below HK.out.k hbc)
        have y0 := kc hbc y0
        have y1 := kc hbc y1
        have hsc := hbc.size
        rw [← hvc]
        clear hvc hbc HPb HIb
        refine (HPw.out _ HPc.out (HIc.out.laid HL.out)).mono ?_
        rintro _ vd ⟨rfl, hgr, -⟩
        have hfr : Fr (fun k => k = mbb) vc vd := Fr.ofGrown hgr (fun b _ e => (Option.some.inj e).symm)
        have HId := Lib.hid (show BusI BO w1.heap.size w bb Q2 F2 G2 vd from ⟨(HK.out.k.frm _ _).fr HIc.out.o hfr (fun k hk e => by have e' : k = mbb := e; have := HG9.out k hk; omega), hfr.toBelow HIc.out.b (fun k hk => by have e' : k = mbb := hk; omega) (Nat.le_refl _), HIc.out.f⟩)
        have y0 := hfr.cell y0 (by omega)
        have y1 := hfr.cell y1 (by omega)
        have z0 := hfr.cell z0 (by omega)
        have z1 := hfr.cell z1 (by omega)
        have hsd := hfr.size
        clear hgr hfr HPc HIc HPw
        go_wp2_with fail
        refine (HRd2.out F2 G2 _ (HId.out.laid HL.out) HId.out.o).mono ?_
        rintro _ ve ⟨rfl, F3, G3, ho, hM⟩
        have HIe := Lib.hid (HId.out.move (by omega) (by omega) ho hM)
        have y0 := hM.fr.cell y0 (fun hf => by have := (HK.out.k.frm _ _).sub HId.out.o _ hf; have := HG9.out _ this; omega)
        have y1 := hM.fr.cell y1 (fun hf => by have := (HK.out.k.frm _ _).sub HId.out.o _ hf; have := HG9.out _ this; omega)
        have z0 := hM.fr.cell z0 (fun hf => by have := (HK.out.k.frm _ _).sub HId.out.o _ hf; have := HG9.out _ this; omega)
        have z1 := hM.fr.cell z1 (fun hf => by have := (HK.out.k.frm _ _).sub HId.out.o _ hf; have := HG9.out _ this; omega)
        have hyl := klt y0
        have hzl := klt z0
        clear ho hM HId HRd2
        go_wp2_with fail
        have hbe : Below ve.heap.size ve (ve.alloc (Obj.cells #[.int .u8 V, .int .u8 T'] 49)) := by go_grown
        refine (HCy2.out F3 G3 _ (HIe.out.below HK.out.k hbe).o).mono ?_
        rintro _ vf ⟨rfl, hb⟩
        have HB := Lib.hid ((HIe.out.below HK.out.k hbe).below HK.out.k hb).b
        clear hb hbe HIe HCy2 y0 y1 z0 z1 hyl hzl
        go_wp2_with fail
        refine (HAwake.out _ (HL.out.keep (HB.out.block 0 hlt0))).mono ?_
        rintro _ z ⟨rfl, hb⟩
        have HZ := Lib.hid (Below.trans HB.out (hb.mono HB.out.size))
        clear hb
        go_wp2
        go_ret
        exact ⟨rfl, HZ.out⟩
      · have hE1 : (RE == 0) = false := by simpa using hE
        rw [if_pos hE] at HCyC
        clear hE
        go_wp2_with fail
        refine (HCyC.out Fd Gd _ HD.out).mono ?_
        rintro _ v6 ⟨rfl, hb⟩
        have HP6 := Lib.hid (HP5.out.below hb)
        have HI6 := Lib.hid (HI5.out.below HK.out.k hb)
        have hs6 := hb.size
        clear hb HP5 HI5 HCyC HD
        go_wp2_with fail
        refine (HCy.out _ HI6.out.o).mono ?_
        rintro _ v7 ⟨rfl, hb⟩
        have HP7 := Lib.hid (HP6.out.below hb)
        have HI7 := Lib.hid (HI6.out.below HK.out.k hb)
        have hs7 := hb.size
        clear hb HP6 HI6
        go_wp2_with fail
        refine (devr_c at_ _).mono ?_
        rintro _ v8 ⟨rfl, hb⟩
        have HP8 := Lib.hid (HP7.out.below hb)
        have HI8 := Lib.hid (HI7.out.below HK.out.k hb)
        have hs8 := hb.size
        have HB := Lib.hid HI8.out.b
        clear hb HP7 HI7
        obtain ⟨D, hD⟩ : ∃ D, devB at_ = D := ⟨_, rfl⟩
        rw [hD]
        cases D
        rotate_left
        · go_wp2_with fail
          refine (HAwake.out _ (HL.out.keep (HB.out.block 0 hlt0))).mono ?_
          rintro _ z ⟨rfl, hb⟩
          have HZ := Lib.hid (Below.trans HB.out (hb.mono HB.out.size))
          clear hb
          go_wp2
          go_ret
          exact ⟨rfl, HZ.out⟩
        by_cases h0 : at_ < 0
        · have d0 : decide (at_ < 0) = true := by simpa using h0
          go_wp2_with fail
          refine (HAwake.out _ (HL.out.keep (HB.out.block 0 hlt0))).mono ?_
          rintro _ z ⟨rfl, hb⟩
          have HZ := Lib.hid (Below.trans HB.out (hb.mono HB.out.size))
          clear hb
          go_wp2
          go_ret
          exact ⟨rfl, HZ.out⟩
        have d0 : decide (at_ < 0) = false := by simpa using h0
        by_cases h9 : 65535 < at_
        · have d9 : decide (65535 < at_) = true := by simpa using h9
          go_wp2_with fail
          refine (HAwake.out _ (HL.out.keep (HB.out.block 0 hlt0))).mono ?_
          rintro _ z ⟨rfl, hb⟩
          have HZ := Lib.hid (Below.trans HB.out (hb.mono HB.out.size))
          clear hb
          go_wp2
          go_ret
          exact ⟨rfl, HZ.out⟩
        have d9 : decide (65535 < at_) = false := by simpa using h9
        have HRd := Lib.hid (fun W hW hW2 => HK.out.k.read bb Q F G at_ W HAt.out HRm.out.may hW hW2)
        unfold TEnd rdBV at HRd
        rw [rdB_mem (by omega) (by omega) hD] at HRd
        have hrq := rdQ_mem Q (a := at_) (by omega) (by omega)
        have HR2 : Hid (Room 999999 (rdQ Q at_)) := Lib.hid (HRm.out.read at_)
        have HRd2 := Lib.hid (fun F' G' W hW hW2 => HK.out.k.read bb (rdQ Q at_) F' G' at_ W HAt.out HR2.out.may hW hW2)
        unfold TEnd rdBV at HRd2
        rw [rdB_mem (by omega) (by omega) hD, hrq.1] at HRd2
        have hrq2 := rdQ_mem (rdQ Q at_) (a := at_) (by omega) (by omega)
        have HCy2 := Lib.hid (fun F' G' W hW => HK.out.k.cycles bb (rdQ (rdQ Q at_) at_) F' G' W hW)
        rw [hrq2.2, hrq.2, HNN.out, show nn + 1 + 1 = nn + 2 by omega] at HCy2
        have HPr := Lib.hid (fun W hW hW2 => readp_c Q.M at_ mb mbb W hW hW2)
        rw [prM_memV Q.M at_ (by omega) (by omega) hD] at HPr
        have HPw := Lib.hid (fun W hW hW2 => writep_c Q.M at_ 9 9 mb mbb W hW hW2)
        dsimp only at HRd HRd2 HPr
        generalize rdQ (rdQ Q at_) at_ = Q3 at *
        generalize rdQ Q at_ = Q2 at *
        obtain ⟨⟨V, T'⟩, hV⟩ : ∃ X, memV Q.M at_ = X := ⟨_, rfl⟩
        rw [hV] at HRd HRd2 HPr
        dsimp only at HRd HRd2 HPr
        clear hV hrq hrq2 HCy HNN HB hD h0 h9
        go_wp2_with fail
        refine (HRd.out _ (HI8.out.laid HL.out) HI8.out.o).mono ?_
        rintro _ v9 ⟨rfl, F2, G2, ho, hM⟩
        have HI9 := Lib.hid (HI8.out.move (by omega) (by omega) ho hM)
        have HP9 := Lib.hid (HP8.out.keep (hM.fr.keep _ (by omega) (fun hf => by have := HG1.out _ ((HK.out.k.frm _ _).sub HI8.out.o _ hf); omega)) (hM.fr.keep _ (by omega) (fun hf => by have := HG1.out _ ((HK.out.k.frm _ _).sub HI8.out.o _ hf); omega)))
        have HG9 := Lib.hid (show ∀ k, G2 k → (k < u2.heap.size ∨ v8.heap.size ≤ k) ∧ k < v9.heap.size from fun k hk => ⟨(hM.g k hk).imp (fun h => HG1.out k h) id, (HK.out.k.frm _ _).lt ho k hk⟩)
        have hs9 := hM.fr.size
        clear ho hM HP8 HI8 HRd
        go_wp2_with fail
        obtain ⟨va, hva⟩ : ∃ W, W = v9.alloc (Obj.cells #[.int .u8 V, .int .u8 T'] 49) := ⟨_, rfl⟩
        have y0 : va.cell? ⟨v9.heap.size, 0, none⟩ = some (.int .u8 V) := by rw [hva]; go_simp; first | done | rfl
        have y1 : va.cell? ⟨v9.heap.size, 1, none⟩ = some (.int .u8 T') := by rw [hva]; go_simp; first | done | rfl
        have hba : Below v9.heap.size v9 va := by rw [hva]; go_grown
        have HPa := Lib.hid (HP9.out.below hba)
        have HIa := Lib.hid (HI9.out.below HK.out.k hba)
        rw [← hva]
        clear hva hba HP9 HI9
        refine (HPr.out _ HPa.out (HIa.out.laid HL.out)).mono ?_
        rintro _ vb ⟨rfl, hb⟩
        have HPb := Lib.hid (HPa.out.below hb)
        have HIb := Lib.hid (HIa.out.below HK.out.k hb)
        have y0 := kc hb y0
        have y1 := kc hb y1
        have hsb := hb.size
        have hyl := klt y0
        clear hb HPa HIa HPr
        go_wp2_with fail
        obtain ⟨vc, hvc⟩ : ∃ W, W = vb.alloc (Obj.cells #[.int .u8 V, .int .u8 T'] 49) := ⟨_, rfl⟩
        have z0 : vc.cell? ⟨vb.heap.size, 0, none⟩ = some (.int .u8 V) := by rw [hvc]; go_simp; first | done | rfl
        have z1 : vc.cell? ⟨vb.heap.size, 1, none⟩ = some (.int .u8 T') := by rw [hvc]; go_simp; first | done | rfl
        have hbc : Below vb.heap.size vb vc := by rw [hvc]; go_grown
        have HPc := Lib.hid (HPb.out.below hbc)
        have HIc := Lib.hid (HIb.out.below HK.out.k hbc)
        have y0 := kc hbc y0
        have y1 := kc hbc y1
        have hsc := hbc.size
        rw [← hvc]
        clear hvc hbc HPb HIb
        refine (HPw.out _ HPc.out (HIc.out.laid HL.out)).mono ?_
        rintro _ vd ⟨rfl, hgr, -⟩
        have hfr : Fr (fun k => k = mbb) vc vd := Fr.ofGrown hgr (fun b _ e => (Option.some.inj e).symm)
        have HId := Lib.hid (show BusI BO w1.heap.size w bb Q2 F2 G2 vd from ⟨(HK.out.k.frm _ _).fr HIc.out.o hfr (fun k hk e => by have e' : k = mbb := e; have := HG9.out k hk; omega), hfr.toBelow HIc.out.b (fun k hk => by have e' : k = mbb := hk; omega) (Nat.le_refl _), HIc.out.f⟩)
        have y0 := hfr.cell y0 (by omega)
        have y1 := hfr.cell y1 (by omega)
        have z0 := hfr.cell z0 (by omega)
        have z1 := hfr.cell z1 (by omega)
        have hsd := hfr.size
        clear hgr hfr HPc HIc HPw
        go_wp2_with fail
        refine (HRd2.out F2 G2 _ (HId.out.laid HL.out) HId.out.o).mono ?_
        rintro _ ve ⟨rfl, F3, G3, ho, hM⟩
        have HIe := Lib.hid (HId.out.move (by omega) (by omega) ho hM)
        have y0 := hM.fr.cell y0 (fun hf => by have := (HK.out.k.frm _ _).sub HId.out.o _ hf; have := HG9.out _ this; omega)
        have y1 := hM.fr.cell y1 (fun hf => by have := (HK.out.k.frm _ _).sub HId.out.o _ hf; have := HG9.out _ this; omega)
        have z0 := hM.fr.cell z0 (fun hf => by have := (HK.out.k.frm _ _).sub HId.out.o _ hf; have := HG9.out _ this; omega)
        have z1 := hM.fr.cell z1 (fun hf => by have := (HK.out.k.frm _ _).sub HId.out.o _ hf; have := HG9.out _ this; omega)
        have hyl := klt y0
        have hzl := klt z0
        clear ho hM HId HRd2
        go_wp2_with fail
        have hbe : Below ve.heap.size ve (ve.alloc (Obj.cells #[.int .u8 V, .int .u8 T'] 49)) := by go_grown
        refine (HCy2.out F3 G3 _ (HIe.out.below HK.out.k hbe).o).mono ?_
        rintro _ vf ⟨rfl, hb⟩
        have HB := Lib.hid ((HIe.out.below HK.out.k hbe).below HK.out.k hb).b
        clear hb hbe HIe HCy2 y0 y1 z0 z1 hyl hzl
        go_wp2_with fail
        refine (HAwake.out _ (HL.out.keep (HB.out.block 0 hlt0))).mono ?_
        rintro _ z ⟨rfl, hb⟩
        have HZ := Lib.hid (Below.trans HB.out (hb.mono HB.out.size))
        clear hb
        go_wp2
        go_ret
        exact ⟨rfl, HZ.out⟩
end Go.Proofs.YtcnejgilmciljaaGreatDoor
