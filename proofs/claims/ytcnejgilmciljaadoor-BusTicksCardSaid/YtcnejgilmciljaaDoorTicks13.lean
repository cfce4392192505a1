/-
  Layer 13's laws: what a setup's bus is; BusTicks.
-/
import Derived.Test.YtcnejgilmciljaaDoorBits10
import Derived.Test.YtcnejgilmciljaaDoorAfterp10
set_option linter.unusedSimpArgs false
set_option linter.unusedVariables false
namespace Go.Proofs.YtcnejgilmciljaaDoor
open Go.RowKit Go.PlainAid

def inE (x : Int) : List Value := [.int .i64 x]
theorem inE_one (l : List Int) (v : Value) (w : World) (h : HoldsW cE 1 w v l) : HoldsW cE 1 w v l := h
set_option maxRecDepth 100000 in
set_option maxHeartbeats 8000000 in
theorem ticks_walk {BO : Nat → Bs → Thing} (K : BusK BO) (s : Su) (lv pv sv : Value) (l : List Int) (v : Value) (w : World) (h : InS w.heap.size w lv pv sv s) (hL : Laid w) (hv : HoldsW cE 1 w v l) (hgd : ∀ x ∈ l, i64I x) (hl : l.length ≤ 9223372036854775807)
    (hlt : 0 < l.length → ∀ g, v.ownBlock = some g → g < w.heap.size) :
    Calls Tryd.prog 4 #[.agg (suA lv pv sv s.T), v] w fun e w' => e = .returned (.bool true) ∧ Below w.heap.size w w' := by
  have HK := Lib.hid K
  have HL := Lib.hid hL
  have HS := Lib.hid h
  have HMade := Lib.hid (fun W (hW : Below w.heap.size w W) => made_any K s lv pv sv W ⟨(h.below hW).c.widen hW.size, h.cl, h.ck, (h.below hW).p, (h.below hW).s⟩ (hL.below hW))
  have HFew := Lib.hid (fun W (hW : Below w.heap.size w W) => few13_c w.heap.size s lv pv sv W (h.below hW) hW.size)
  have HAwake := Lib.hid (fun W (hW : Laid W) => awake13_c K W hW)
  obtain ⟨p, c, rfl⟩ := hv.form
  obtain ⟨n, hn⟩ : ∃ n, l.length = n := ⟨_, rfl⟩
  rw [hn] at hl hv hlt ⊢
  have HV := Lib.hid hv
  have HN := Lib.hid hn
  have HGd := Lib.hid hgd
  have hlt0 := hL.lt
  clear h hL hv hn hgd
  unfold suA at *
  go_enter Tryd.func4, Tryd.ntmps4
  go_wp2_with fail
  obtain ⟨w1, hw1⟩ : ∃ W, W = w.alloc (Obj.cells #[lv, .int .i64 s.T.l, .int .i64 s.T.c, .bool s.T.r, .bool s.T.a, .bool s.T.s, .bool s.T.g, pv, sv] 52) := ⟨_, rfl⟩
  have HC0 := Lib.hid (show ∀ i v, (#[lv, .int .i64 s.T.l, .int .i64 s.T.c, .bool s.T.r, .bool s.T.a, .bool s.T.s, .bool s.T.g, pv, sv] : Array Value)[i]? = some v → w1.cell? ⟨w.heap.size, i, none⟩ = some v from fun i v hv => by
    rw [hw1, cell_of_row _ _ _ _ _ _ (heap_alloc_new w (.cells #[lv, .int .i64 s.T.l, .int .i64 s.T.c, .bool s.T.r, .bool s.T.a, .bool s.T.s, .bool s.T.g, pv, sv] 52))]
    exact hv)
  have HB0 := Lib.hid (show Below w.heap.size w w1 from by rw [hw1]; go_grown)
  have hz1 : w1.heap.size = w.heap.size + 1 := by rw [hw1]; simp
  rw [← hw1]
  clear hw1
  refine (HMade.out w1 HB0.out).mono ?_
  rintro e u ⟨hb, hres⟩
  have HB1 := Lib.hid (Below.trans HB0.out (hb.mono (by omega)))
  have HC1 := Lib.hid (fun i v hv => kc hb (HC0.out i v hv))
  have hzu := hb.size
  have q0 := HC1.out 0 _ rfl
  have q1 := HC1.out 1 _ rfl
  have q2 := HC1.out 2 _ rfl
  have q3 := HC1.out 3 _ rfl
  have q4 := HC1.out 4 _ rfl
  have q5 := HC1.out 5 _ rfl
  have q6 := HC1.out 6 _ rfl
  have q7 := HC1.out 7 _ rfl
  have q8 := HC1.out 8 _ rfl
  have hqq := klt q0
  obtain ⟨ff, hff⟩ : ∃ f, fewS s = f := ⟨_, rfl⟩
  rw [hff] at HFew
  have HFF := Lib.hid hff
  clear hff HMade
  rcases hres with ⟨bb, F, G, rfl, ho, hg, hT, h1, h2⟩ | ⟨rfl, hno⟩
  · have HI0 := Lib.hid (show BusI BO w1.heap.size w bb (suQ s) F G u from ⟨ho, HB1.out, fun k hk => hg k ((HK.out.frm _ _).sub ho k hk)⟩)
    have HRoom := Lib.hid (suQ_room s hT h1 h2)
    have HT := Lib.hid hT
    clear ho hg hT h1 h2 hb
    go_wp2_with fail
    refine (HFew.out _ HB1.out).mono ?_
    rintro _ u2 ⟨rfl, hb⟩
    have HB2 := Lib.hid (Below.trans HB1.out (hb.mono HB1.out.size))
    have HC2 := Lib.hid (fun i v hv => kc hb (HC1.out i v hv))
    have HI2 := Lib.hid (HI0.out.below HK.out hb)
    clear hb HI0 HC1 q0 q1 q2 q3 q4 q5 q6 q7 q8 hqq
    cases ff
    · go_wp2_with fail
      refine (HAwake.out _ (HL.out.keep (HB2.out.block 0 hlt0))).mono ?_
      rintro _ z ⟨rfl, hb⟩
      have HZ := Lib.hid (Below.trans HB2.out (hb.mono HB2.out.size))
      clear hb
      go_wp2
      go_ret
      exact ⟨rfl, HZ.out⟩
    · by_cases h60 : 60 < n
      · have hd60 : decide ((60 : Int) < (n : Int)) = true := decide_eq_true (by omega)
        go_wp2_with fail
        refine (HAwake.out _ (HL.out.keep (HB2.out.block 0 hlt0))).mono ?_
        rintro _ z ⟨rfl, hb⟩
        have HZ := Lib.hid (Below.trans HB2.out (hb.mono HB2.out.size))
        clear hb
        go_wp2
        go_ret
        exact ⟨rfl, HZ.out⟩
      · have hd60 : decide ((60 : Int) < (n : Int)) = false := decide_eq_false (by omega)
        have hz2 := HB2.out.size
        have hzw : w1.heap.size ≤ u2.heap.size := by have := klt (HC2.out 0 _ rfl); omega
        go_wp2_with fail
        go_loopw [6, 7] (fun s6 s7 wr => ∃ (k cc : Nat) (Q : Bs) (F G : Nat → Prop), k ≤ n ∧ s7 = .int .i64 k ∧ s6 = .int .i64 cc ∧ Hid (BusI BO w1.heap.size w bb Q F G wr) ∧ Hid (Room (100 - k) Q) ∧ Hid (Q.T = ticks cc s.T ∧ Q.n = cc ∧ cc ≤ k) ∧
          Hid (∀ i v, (#[lv, .int .i64 s.T.l, .int .i64 s.T.c, .bool s.T.r, .bool s.T.a, .bool s.T.s, .bool s.T.g, pv, sv] : Array Value)[i]? = some v → wr.cell? ⟨w.heap.size, i, none⟩ = some v) ∧ w1.heap.size ≤ wr.heap.size) (fun _ i _ => n - (intOf i).toNat)
        case atStart => exact ⟨0, 0, suQ s, F, G, Nat.zero_le _, rfl, rfl, HI2, Lib.hid (HRoom.out.less (by omega)), Lib.hid ⟨rfl, rfl, Nat.le_refl _⟩, HC2, hzw⟩
        case round =>
          clear HI2 HC2 HB2 HB1 HRoom HFew hzw hz2 hzu
          obtain ⟨k, cc, Q, F, G, hk, rfl, rfl, HI, HR, HQ, HC, hzw⟩ := hrel
          by_cases hlk : k < n
          · have hk1 : k < l.length := by have := HN.out; omega
            have hd : decide ((k : Int) < (n : Int)) = true := decide_eq_true (by omega)
            have hin : (0 : Int) ≤ (k : Int) ∧ (k : Int) < (n : Int) := by omega
            have hw2 : IntKind.i64.wrap ((k : Int) + 1) = (k : Int) + 1 := IntWalk.i64_in _ (by omega)
            have hcc := HQ.out.2.2
            have hw3 : IntKind.i64.wrap ((cc : Int) + 1) = (cc : Int) + 1 := IntWalk.i64_in _ (by omega)
            obtain ⟨g, o, cap, e1, hcap, hcell⟩ := HV.out.some (by omega)
            obtain ⟨rfl, -, rfl⟩ := Value.slice.inj e1
            have hx0 := hcell k _ (List.getElem?_eq_getElem hk1) 0 _ rfl
            rw [Nat.mul_one, Nat.add_zero] at hx0
            have hx := kc HI.out.b hx0
            have hgl := klt hx
            have hA := HGd.out l[k] (List.getElem_mem hk1)
            generalize l[k] = A at *
            clear e1 hcell hx0 hk1
            have hstep := HK.out.read bb Q F G A wr hA HR.out.may (HI.out.laid HL.out) HI.out.o
            unfold TEnd rdBV at hstep
            have herr := rdB_err (memV Q.M) Q.T Q.S Q.W A
            obtain ⟨⟨V, T', E⟩, hX⟩ : ∃ X, rdB (memV Q.M) Q.T Q.S Q.W A = X := ⟨_, rfl⟩
            rw [hX] at hstep herr
            dsimp only at hstep herr
            have HStep := Lib.hid hstep
            have HR1 := Lib.hid (show Room (100 - (k + 1)) (rdQ Q A) from by have := HR.out; rw [show 100 - k = (100 - (k + 1)) + 1 by omega] at this; exact this.read A)
            clear hstep hX
            go_wp2_with fail
            refine HStep.out.mono ?_
            rintro _ u3 ⟨rfl, F2, G2, ho, hM⟩
            have HI3 := Lib.hid (HI.out.move (by omega) hzw ho hM)
            have HC3 := Lib.hid (fun i v hv => hM.fr.cell (HC.out i v hv) (fun hf => by have := HI.out.f _ hf; omega))
            have hz3 := hM.fr.size
            clear ho hM HStep hx hgl
            by_cases hbad : A < 0 ∨ 65535 < A
            · rw [if_pos hbad] at herr
              subst herr
              have hq : rdQ Q A = Q := by unfold rdQ; rw [if_pos hbad]
              rw [hq] at HI3 HR1
              clear hq hbad HI HC
              go_wp2
              have hbz : Below u3.heap.size u3 (u3.alloc (Obj.cells #[Value.int .u8 V, Value.int .u8 T'] 23)) := by go_grown
              exact ⟨⟨k + 1, cc, Q, F2, G2, by omega, by simp, rfl, Lib.hid (HI3.out.below HK.out hbz), HR1, Lib.hid ⟨HQ.out.1, HQ.out.2.1, by omega⟩, Lib.hid (fun i v hv => kc hbz (HC3.out i v hv)), by simp; omega⟩, by first | omega | (simp [intOf]; omega)⟩
            · rw [if_neg hbad] at herr
              subst herr
              have hq : (rdQ Q A).T = tickT Q.T ∧ (rdQ Q A).n = Q.n + 1 := by unfold rdQ; rw [if_neg hbad]; exact ⟨rfl, rfl⟩
              have HQ1 := Lib.hid (show (rdQ Q A).T = ticks (cc + 1) s.T ∧ (rdQ Q A).n = ((cc + 1 : Nat) : Int) ∧ cc + 1 ≤ k + 1 from ⟨by rw [hq.1, HQ.out.1, ticks_last], by rw [hq.2, HQ.out.2.1]; simp, by omega⟩)
              generalize rdQ Q A = Q' at *
              clear hq hbad HI HC HQ
              go_wp2
              have hbz : Below u3.heap.size u3 (u3.alloc (Obj.cells #[Value.int .u8 V, Value.int .u8 T'] 23)) := by go_grown
              exact ⟨⟨k + 1, cc + 1, Q', F2, G2, by omega, by simp, by simp, Lib.hid (HI3.out.below HK.out hbz), HR1, HQ1, Lib.hid (fun i v hv => kc hbz (HC3.out i v hv)), by simp; omega⟩, by first | omega | (simp [intOf]; omega)⟩
          · obtain rfl : k = n := by omega
            have hd : decide ((k : Int) < (k : Int)) = false := decide_eq_false (by omega)
            have q1 := HC.out 1 _ rfl
            have q2 := HC.out 2 _ rfl
            have q3 := HC.out 3 _ rfl
            have q4 := HC.out 4 _ rfl
            have q5 := HC.out 5 _ rfl
            have q6 := HC.out 6 _ rfl
            have hqq := klt q1
            have hcc := HQ.out.2.2
            have HAf := Lib.hid (fun W => afterp_c s.T cc HT.out (by omega) (by omega) W)
            rw [show afterT s.T (cc : Int) = Q.T from by rw [HQ.out.1]; unfold afterT; rw [Int.toNat_natCast]] at HAf
            go_wp2_with fail
            refine (HAf.out _).mono ?_
            rintro _ u3 ⟨rfl, hb⟩
            have HI3 := Lib.hid (HI.out.below HK.out hb)
            clear hb q1 q2 q3 q4 q5 q6 hqq HC HI HAf
            have HTim := Lib.hid (fun W hW => HK.out.timer bb Q F G W hW)
            have HIrq := Lib.hid (fun W hW => HK.out.irq bb Q F G W hW)
            have HCyc := Lib.hid (fun W hW => HK.out.cycles bb Q F G W hW)
            unfold tmVal at HTim
            rw [HQ.out.2.1] at HCyc
            obtain ⟨X, hX⟩ : ∃ X, Q.T = X := ⟨_, rfl⟩
            rw [hX] at HTim HIrq ⊢
            obtain ⟨ql, qc, qr, qa, qs, qg⟩ := X
            dsimp only at HTim HIrq ⊢
            clear hX HQ HR
            go_wp2_with fail
            obtain ⟨u4, hu4⟩ : ∃ W, W = u3.alloc (Obj.cells #[.int .i64 ql, .int .i64 qc, .bool qr, .bool qa, .bool qs, .bool qg] 32) := ⟨_, rfl⟩
            have t0 : u4.cell? ⟨u3.heap.size, 0, none⟩ = some (.int .i64 ql) := by rw [hu4]; go_simp; first | done | rfl
            have t1 : u4.cell? ⟨u3.heap.size, 1, none⟩ = some (.int .i64 qc) := by rw [hu4]; go_simp; first | done | rfl
            have t2 : u4.cell? ⟨u3.heap.size, 2, none⟩ = some (.bool qr) := by rw [hu4]; go_simp; first | done | rfl
            have t3 : u4.cell? ⟨u3.heap.size, 3, none⟩ = some (.bool qa) := by rw [hu4]; go_simp; first | done | rfl
            have t4 : u4.cell? ⟨u3.heap.size, 4, none⟩ = some (.bool qs) := by rw [hu4]; go_simp; first | done | rfl
            have t5 : u4.cell? ⟨u3.heap.size, 5, none⟩ = some (.bool qg) := by rw [hu4]; go_simp; first | done | rfl
            have f0 : u4.frozen? ⟨u3.heap.size, 0, none⟩ = false := by rw [hu4]; go_simp
            have f1 : u4.frozen? ⟨u3.heap.size, 1, none⟩ = false := by rw [hu4]; go_simp
            have f2 : u4.frozen? ⟨u3.heap.size, 2, none⟩ = false := by rw [hu4]; go_simp
            have f3 : u4.frozen? ⟨u3.heap.size, 3, none⟩ = false := by rw [hu4]; go_simp
            have f4 : u4.frozen? ⟨u3.heap.size, 4, none⟩ = false := by rw [hu4]; go_simp
            have f5 : u4.frozen? ⟨u3.heap.size, 5, none⟩ = false := by rw [hu4]; go_simp
            have hb4 : Below u3.heap.size u3 u4 := by rw [hu4]; go_grown
            have HTw := Lib.hid (show Tw u3.heap.size 0 ⟨ql, qc, qr, qa, qs, qg⟩ u4 from Tw.mk0 t0 t1 t2 t3 t4 t5 f0 f1 f2 f3 f4 f5)
            have HI4 := Lib.hid (HI3.out.below HK.out hb4)
            rw [← hu4]
            clear hu4 hb4 HI3 t0 t1 t2 t3 t4 t5 f0 f1 f2 f3 f4 f5
            refine (HTim.out _ HI4.out.o).mono ?_
            rintro _ u5 ⟨rfl, hb⟩
            have HI5 := Lib.hid (HI4.out.below HK.out hb)
            have HTw5 := Lib.hid (HTw.out.below hb)
            obtain ⟨t0, t1, t2, t3, t4, t5⟩ := HTw5.out.at0
            have htl := klt t0
            clear hb HI4 HTw
            go_wp2_with fail
            have HD := Lib.hid (show Below u5.heap.size u5 (u5.alloc (Obj.cells #[.int .i64 ql, .int .i64 qc, .bool qr, .bool qa, .bool qs, .bool qg] 32)) from by go_grown)
            refine (HIrq.out _ (HI5.out.below HK.out HD.out).o).mono ?_
            rintro _ u6 ⟨rfl, hb⟩
            have hb' := Below.trans HD.out (hb.mono HD.out.size)
            have HI6 := Lib.hid (HI5.out.below HK.out hb')
            have HTw6 := Lib.hid (HTw5.out.below hb')
            clear hb hb' HD HI5 HTw5 t0 t1 t2 t3 t4 t5 htl
            go_wp2_with fail
            refine (irqp_c _ 0 ⟨ql, qc, qr, qa, qs, qg⟩ _ HTw6.out).mono ?_
            rintro _ u7 ⟨rfl, hb⟩
            have HI7 := Lib.hid (HI6.out.below HK.out hb)
            clear hb HI6 HTw6
            dsimp only
            generalize (qg && qs) = IQ
            go_wp2_with fail
            refine (HCyc.out _ HI7.out.o).mono ?_
            rintro _ u8 ⟨rfl, hb⟩
            have HI8 := Lib.hid (HI7.out.below HK.out hb)
            clear hb HI7
            go_wp2_with fail
            refine (HAwake.out _ (HI8.out.laid HL.out)).mono ?_
            rintro _ z ⟨rfl, hb⟩
            have HZ := Lib.hid (HI8.out.below HK.out hb).b
            clear hb
            go_wp2
            go_ret
            exact ⟨rfl, HZ.out⟩
  · have HNO := Lib.hid hno
    clear hno hb
    go_wp2_with fail
    refine (HFew.out _ HB1.out).mono ?_
    rintro _ u2 ⟨rfl, hb⟩
    have HB2 := Lib.hid (Below.trans HB1.out (hb.mono HB1.out.size))
    have HC2 := Lib.hid (fun i v hv => kc hb (HC1.out i v hv))
    clear hb q0 q1 q2 q3 q4 q5 q6 q7 q8 hqq
    cases ff
    · go_wp2_with fail
      refine (HAwake.out _ (HL.out.keep (HB2.out.block 0 hlt0))).mono ?_
      rintro _ z ⟨rfl, hb⟩
      have HZ := Lib.hid (Below.trans HB2.out (hb.mono HB2.out.size))
      clear hb
      go_wp2
      go_ret
      exact ⟨rfl, HZ.out⟩
    · go_wp2_with fail
      refine (HAwake.out _ (HL.out.keep (HB2.out.block 0 hlt0))).mono ?_
      rintro _ z ⟨rfl, hb⟩
      have HZ := Lib.hid (Below.trans HB2.out (hb.mono HB2.out.size))
      clear hb
      go_wp2
      go_ret
      exact ⟨rfl, HZ.out⟩
end Go.Proofs.YtcnejgilmciljaaDoor
