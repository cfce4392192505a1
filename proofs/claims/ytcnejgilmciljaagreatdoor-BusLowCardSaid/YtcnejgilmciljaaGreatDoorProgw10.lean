/-
  Layer 13's laws: the chapter's examples.
  Layer 13's laws: what a setup's bus is; a bus in a law's loop; a call.
  The program's timer: IRQ, Tick, mayBe, has, control, Write.
  Bits of numbers: a word's low byte, its high byte; a byte's bits.
  The program's timer: mayBe, has, control, Write.
-/
import Derived.Test.YtcnejgilmciljaaGreatDoorOutp11
import Derived.Test.YtcnejgilmciljaaGreatDoorRow10
import Derived.WalkKit
import Derived.IntWalk
import Derived.Laws.BitsAllLaws
import Derived.Test.YtcnejgilmciljaaGreatDoorTm10
set_option linter.unusedSimpArgs false
set_option linter.unusedVariables false
namespace Go.Proofs.YtcnejgilmciljaaGreatDoor
open Go.RowKit Go.PlainAid

/-- Calls that answer ports; bytes. -/
def kPorts (S : Po) : KdR := .any undef (fun v => (∃ b, v = .pointer (some ⟨b, 0, none⟩)) ∨ v = undef) (fun x w => ∃ b F G, x.v = .pointer (some ⟨b, 0, none⟩) ∧ PO b S F G w)
theorem kPorts_fine (S : Po) : (kPorts S).Fine := ⟨.inr rfl, fun x W w1 h hb => by obtain ⟨b, F, G, e, h⟩ := h; exact ⟨b, F, G, e, (PO.frm _ _).below h hb⟩, fun x w h => by obtain ⟨b, _, _, e, _⟩ := h; exact .inl ⟨b, e⟩⟩
def kBy (l : List Int) : KdR := .any undef (fun _ => True) (fun x w => HoldsW bE 1 w x.v l)
theorem kBy_fine (l : List Int) : (kBy l).Fine := ⟨trivial, fun x W w1 h hb => h.below hb, fun _ _ _ => trivial⟩
theorem holds_one13 {W : World} (x : Int) (T : TypeId) : HoldsW bE 1 (W.alloc (.cells #[.int .u8 x] T)) (.slice (some ⟨W.heap.size, 0, none⟩) 1 1) [x] := by
  refine .inr ⟨W.heap.size, 0, 1, rfl, Nat.le_refl _, fun j y hj i u hu => ?_⟩
  match j, hj with
  | 0, hj =>
    obtain rfl : x = y := by simpa using hj
    match i, hu with
    | 0, hu =>
      obtain rfl : Value.int .u8 x = u := by simpa [bE] using hu
      rw [cell_of_row _ _ _ _ _ _ (heap_alloc_new W (.cells #[.int .u8 x] T))]
      rfl
    | i + 1, hu => simp [bE] at hu
  | j + 1, hj => simp at hj
def awB1 : Bs := wrQ noB 32774 6 0
theorem awB1_eq : awB1 = ⟨zeroM, ⟨0, 0, false, false, false, false⟩, ⟨[], [], [6], [], [], []⟩, wh0, 1⟩ := by
  have h1 : wrB noB.S 32774 0 = (0, 0) := by decide
  have h2 : wrPs noB.S 32774 6 0 noB.n = ⟨[], [], [6], [], [], []⟩ := by unfold wrPs wrPo; rw [if_pos (by decide), if_neg (by decide)]; rfl
  have h3 : wrM noB.M 32774 6 0 = zeroM := by unfold wrM; rw [if_neg (by decide)]; rfl
  have h4 : wrT noB.T 32774 6 = noB.T := by unfold wrT; rw [if_neg (by decide)]
  have h5 : wrWh noB.W 32774 6 = noB.W := by unfold wrWh; rw [if_neg (by decide)]
  unfold awB1 wrQ
  rw [h1, if_neg (by decide), h2, h3, h4, h5]
  rfl
set_option maxRecDepth 100000 in
set_option maxHeartbeats 8000000 in
theorem awake13_c {BO : Nat → Bs → Thing} (K : BusK BO) (w : World) (hL : Laid w) :
    Calls Tryz.prog 7 #[] w fun e w' => e = .returned (.bool true) ∧ Below w.heap.size w w' := by
  have HK := Lib.hid K
  have HL := Lib.hid hL
  have HM := Lib.hid (made0_c K w hL.lt)
  have HR1 : Room 999999 awB1 := noB_room.write 32774 6 0 (by omega)
  have hrb : rdB (memV awB1.M) awB1.T awB1.S awB1.W 32782 = (255, 0, 0) := by rw [awB1_eq]; unfold rdB; rw [if_neg (by omega), if_neg (by decide), if_neg (by omega), if_neg (by omega), if_neg (by omega)]
  have hrs : (rdQ awB1 32782).S = ⟨[], [], [6], [], [], []⟩ := by rw [awB1_eq]; rfl
  have hn1 : awB1.n = 1 := by rw [awB1_eq]
  have hfit : Fit (rdQ awB1 32782).S := (HR1.read 32782).s
  have HW := Lib.hid (fun bb F G W hW hb => K.write bb noB F G 32774 6 0 W ⟨by decide, by decide⟩ noB_room.may (by omega) (by omega) hW hb)
  rw [show wrBV (wrB noB.S 32774 0) = .tuple #[.int .i64 0, .int .i64 0] from by rw [show wrB noB.S 32774 0 = (0, 0) from by decide]; rfl] at HW
  have HC := Lib.hid (fun bb F G W hb => K.cycles bb awB1 F G W hb)
  rw [hn1] at HC
  have HP1 := Lib.hid (fun bb F G W hb => K.ports bb awB1 F G W HR1.s hb)
  have HRD := Lib.hid (fun bb F G W hW hb => K.read bb awB1 F G 32782 W ⟨by decide, by decide⟩ HR1.may hW hb)
  rw [hrb] at HRD
  have HP2 := Lib.hid (fun bb F G W hb => K.ports bb (rdQ awB1 32782) F G W hfit hb)
  rw [hrs] at HP2 hfit
  have HFT := Lib.hid hfit
  have HFrm := Lib.hid K.frm
  have ho1 := Lib.hid (fun W => taintof_c 6 W)
  have ho2 := Lib.hid (fun W => taintof_c 255 W)
  rw [show IntKind.u8.wrap 6 = 6 from by decide] at ho1
  rw [show IntKind.u8.wrap 255 = 255 from by decide] at ho2
  generalize rdQ awB1 32782 = Q2 at *
  have hQ1 : wrQ noB 32774 6 0 = awB1 := rfl
  rw [hQ1] at HW
  generalize awB1 = Q1 at *
  unfold TEnd at HW HRD
  clear hrb hrs hn1 hfit hQ1 HR1 hL HK K
  go_enter Tryz.func7, Tryz.ntmps7
  go_wp2_with fail
  refine HM.out.mono ?_
  rintro _ u ⟨bb, F, G, rfl, ho, hg, hl, hb⟩
  have HO := Lib.hid ho
  have HB := Lib.hid hb
  have HG := Lib.hid (fun k (hk : F k) => hg k ((HFrm.out _ _).sub ho k hk))
  have HLu := Lib.hid (HL.out.below hb)
  clear ho hg hl hb HM
  go_wp2_with fail
  refine (ho1.out _).mono ?_
  rintro _ u1 ⟨rfl, hb⟩
  have HB1 := Lib.hid (Below.trans HB.out (hb.mono HB.out.size))
  have HO1 := Lib.hid ((HFrm.out _ _).below HO.out hb)
  have HL1 := Lib.hid (HLu.out.below hb)
  clear hb HO HLu HB
  go_wp2_with fail
  refine (HW.out bb F G _ HL1.out HO1.out).mono ?_
  rintro _ u2 ⟨rfl, F2, G2, ho, hM⟩
  have HO2 := Lib.hid ho
  have HB2 := Lib.hid (hM.lowB HB1.out HG.out (Nat.le_refl _))
  have HG2 := Lib.hid (hM.low HG.out HB1.out.size)
  have HL2 := Lib.hid (HL.out.keep (HB2.out.block 0 HL.out.lt))
  clear ho hM HO1 HB1 HG HL1
  go_wp2_with fail
  refine (HC.out bb F2 G2 _ HO2.out).mono ?_
  rintro _ u3 ⟨rfl, hb⟩
  have HB3 := Lib.hid (Below.trans HB2.out (hb.mono HB2.out.size))
  have HO3 := Lib.hid ((HFrm.out _ _).below HO2.out hb)
  clear hb HO2 HB2 HL2
  go_wp2_with fail
  refine (HP1.out bb F2 G2 _ HO3.out).mono ?_
  rintro _ u4 ⟨pb, Fp, Gp, rfl, -, -, -, hb⟩
  have HB4 := Lib.hid (Below.trans HB3.out (hb.mono HB3.out.size))
  have HO4 := Lib.hid ((HFrm.out _ _).below HO3.out hb)
  have HL4 := Lib.hid (HL.out.keep (HB4.out.block 0 HL.out.lt))
  clear hb HO3 HB3
  go_wp2_with fail
  refine (HRD.out bb F2 G2 _ HL4.out HO4.out).mono ?_
  rintro _ u5 ⟨rfl, F5, G5, ho, hM⟩
  have HO5 := Lib.hid ho
  have HB5 := Lib.hid (hM.lowB HB4.out HG2.out (Nat.le_refl _))
  have hz5 := HB5.out.size
  clear ho hM HO4 HB4 HG2 HL4
  unfold rdBV
  dsimp only
  go_upto_region 8 with fail
  obtain ⟨u6, hu6⟩ : ∃ W, W = u5.alloc (Obj.cells #[Value.int .u8 255, Value.int .u8 0] 49) := ⟨_, rfl⟩
  have k0 : u6.cell? ⟨u5.heap.size, 0, none⟩ = some (.int .u8 255) := by rw [hu6]; go_simp; first | done | rfl
  have k1 : u6.cell? ⟨u5.heap.size, 1, none⟩ = some (.int .u8 0) := by rw [hu6]; go_simp; first | done | rfl
  have hb6 : Below u5.heap.size u5 u6 := by rw [hu6]; go_grown
  have HB6 := Lib.hid (Below.trans HB5.out (hb6.mono hz5))
  have HO6 := Lib.hid ((HFrm.out _ _).below HO5.out hb6)
  rw [← hu6]
  clear hu6 hb6 HO5 HB5
  have hI0 := Below.refl u6.heap.size u6
  have HP3 := Lib.hid (fun W (hW : Below u6.heap.size u6 W) => HP2.out bb F5 G5 W ((HFrm.out _ _).below HO6.out hW))
  refine wp_region_planR 15 (fun W => W.cell? ⟨u5.heap.size, 0, none⟩ = some (.int .u8 255) ∧ W.cell? ⟨u5.heap.size, 1, none⟩ = some (.int .u8 0) ∧ Below u6.heap.size u6 W)
    [.val (.agg #[.int .u8 255, .int .u8 0]), kAnsB (.agg #[.int .u8 255, .int .u8 0]), .val (.bool true), .val (.bool true), .val (.int .i64 0), .val (.bool true), .val (.bool true), .val (.bool true), .val (.pointer (some ⟨bb, 0, none⟩)),
      kPorts ⟨[], [], [6], [], [], []⟩, kBy [6], kBy [6], kAnsB (.bool true), .val (.bool true), .val (.bool true)]
    (by kernel_rfl) (by kernel_rfl) (by kernel_rfl) (by kernel_rfl) (by kernel_rfl) (fun W w1 h hb => ⟨kc hb h.1, kc hb h.2.1, h.2.2.trans (hb.mono h.2.2.size)⟩) ?_ ?_ ?_
  · intro k hk
    simp only [List.mem_cons, List.not_mem_nil, or_false] at hk
    rcases hk with rfl | rfl | rfl | rfl | rfl | rfl | rfl | rfl | rfl | rfl | rfl | rfl | rfl | rfl | rfl <;> first | exact trivial | exact kAnsB_fine _ | exact kPorts_fine _ | exact kBy_fine _
  · exact ⟨by go_simp, by go_simp, Below.drew hI0⟩
  (try simp only [List.append_eq, List.cons_append, List.nil_append, List.toList_toArray, List.take_succ_cons, List.take_zero, List.drop_succ_cons, List.drop_zero])
  (refine PlanR.val ?_ ?_ ?_; (· rfl); (· (intro W hSw; (try dsimp only at hSw); go_simp; all_goals (first | (with_reducible rfl) | (constructor <;> (with_reducible rfl))))); intro _ _; (try simp only [Act.put, List.setIfInBounds_toArray, List.set_cons_zero, List.set_cons_succ]))
  refine PlanR.any ?_ ?_ ?_
  · rfl
  · intro W hSw _
    (try dsimp only at hSw)
    go_simp
    refine ⟨rfl, (ho2.out W).mono ?_⟩
    rintro _ u ⟨rfl, hb⟩
    exact ⟨_, rfl, hb, rfl⟩
  rintro ⟨_, lo1, hi1⟩ rfl
  (try simp only [Act.put, List.setIfInBounds_toArray, List.set_cons_zero, List.set_cons_succ])
  (iterate 7 (refine PlanR.val ?_ ?_ ?_; (· rfl); (· (intro W hSw; (try dsimp only at hSw); go_simp; all_goals (first | (with_reducible rfl) | (constructor <;> (with_reducible rfl))))); intro _ _; (try simp only [Act.put, List.setIfInBounds_toArray, List.set_cons_zero, List.set_cons_succ])))
  refine PlanR.any ?_ ?_ ?_
  · rfl
  · intro W hSw _
    (try dsimp only at hSw)
    go_simp
    refine ⟨rfl, (HP3.out W hSw.2.2).mono ?_⟩
    rintro _ u ⟨b, F, G, rfl, ho, hg, hl, hb⟩
    exact ⟨_, rfl, hb, by first | exact ⟨b, F, G, rfl, ho⟩ | exact ⟨b, rfl, F, G, ho⟩⟩
  rintro ⟨pv, lo2, hi2⟩ hok2
  (try simp only [Act.put, List.setIfInBounds_toArray, List.set_cons_zero, List.set_cons_succ])
  refine PlanR.any ?_ ?_ ?_
  · rfl
  · intro W hSw hKn
    obtain ⟨b, F, G, hpv, ho⟩ : ∃ b F G, pv = .pointer (some ⟨b, 0, none⟩) ∧ PO b ⟨[], [], [6], [], [], []⟩ F G W := hKn 9 (by decide) (by kernel_rfl)
    subst hpv
    (try dsimp only at hSw)
    go_simp
    refine ⟨rfl, (out_b b _ HFT.out F G W ho).mono ?_⟩
    rintro _ u ⟨v', rfl, hr, hb⟩
    exact ⟨_, rfl, hb, HoldsW.own bE_len hr⟩
  rintro ⟨ov, lo3, hi3⟩ -
  (try simp only [Act.put, List.setIfInBounds_toArray, List.set_cons_zero, List.set_cons_succ])
  refine PlanR.any ?_ ?_ ?_
  · rfl
  · intro W hSw hKn
    (try dsimp only at hSw)
    go_simp
    exact ⟨by go_grown, holds_one13 6 _⟩
  rintro ⟨sv, lo4, hi4⟩ -
  (try simp only [Act.put, List.setIfInBounds_toArray, List.set_cons_zero, List.set_cons_succ])
  refine PlanR.any ?_ ?_ ?_
  · rfl
  · intro W hSw hKn
    have h1 : HoldsW bE 1 W ov [6] := hKn 10 (by decide) (by kernel_rfl)
    have h2 : HoldsW bE 1 W sv [6] := hKn 11 (by decide) (by kernel_rfl)
    (try dsimp only at hSw)
    go_simp
    refine ⟨rfl, (bytes13_c [6] (by decide) ov sv W h1 h2).mono ?_⟩
    rintro _ u ⟨rfl, hb⟩
    exact ⟨_, rfl, hb, rfl⟩
  rintro ⟨_, lo5, hi5⟩ rfl
  (try simp only [Act.put, List.setIfInBounds_toArray, List.set_cons_zero, List.set_cons_succ])
  (iterate 2 (refine PlanR.val ?_ ?_ ?_; (· rfl); (· (intro W hSw; (try dsimp only at hSw); go_simp; all_goals (first | (with_reducible rfl) | (constructor <;> (with_reducible rfl))))); intro _ _; (try simp only [Act.put, List.setIfInBounds_toArray, List.set_cons_zero, List.set_cons_succ])))
  refine PlanR.done ?_
  intro u7 GG
  have HB7 := Lib.hid (Below.trans HB6.out (GG.s.2.2.mono HB6.out.size))
  clear GG hok2
  go_wp2
  go_ret
  exact ⟨rfl, HB7.out⟩
end Go.Proofs.YtcnejgilmciljaaGreatDoor
set_option linter.unusedSimpArgs false
set_option linter.unusedVariables false
namespace Go.Proofs.YtcnejgilmciljaaGreatDoor
open Go.RowKit Go.PlainAid

/-- A call, as the laws have it. -/
structure Op13 where
  wr : Bool
  a : Int
  v : Int
  t : Int
def opE (o : Op13) : List Value := [.bool o.wr, .int .i64 o.a, .int .u8 o.v, .int .u8 o.t]
theorem opE_len (o : Op13) : (opE o).length = 4 := rfl
def opG (o : Op13) : Prop := (0 ≤ o.v ∧ o.v ≤ 255) ∧ (0 ≤ o.t ∧ o.t ≤ 255) ∧ i64I o.a
def MadeEnd (BO : Nat → Bs → Thing) (s : Su) (w : World) : Ending → World → Prop := fun e w' => Below w.heap.size w w' ∧
  ((∃ bb F G, e = .returned (.pointer (some ⟨bb, 0, none⟩)) ∧ BO bb (suQ s) F G w' ∧ (∀ k, G k → w.heap.size ≤ k) ∧ s.T.May ∧ s.pub.length ≤ 65536 ∧ s.sec.length ≤ 65536) ∨ (e = .returned (.pointer none) ∧ (fewS s = true → ¬ s.T.May)))
theorem few_len {s : Su} (h : fewS s = true) : s.pub.length ≤ 60 ∧ s.sec.length ≤ 60 ∧ s.cs.length ≤ 6 ∧ ∀ x ∈ s.cs, x.l.length ≤ 60 := by
  unfold fewS at h
  simp only [Bool.and_eq_true, decide_eq_true_eq, List.all_eq_true] at h
  refine ⟨by omega, by omega, by omega, fun x hx => ?_⟩
  have := h.1 x hx
  unfold fewC at this
  simp at this
  omega
theorem made_any {BO : Nat → Bs → Thing} (K : BusK BO) (s : Su) (lv pv sv : Value) (w : World) (h : InS w.heap.size w lv pv sv s) (hL : Laid w) :
    Calls Tryz.prog 8 #[.agg (suA lv pv sv s.T)] w (MadeEnd BO s w) := by
  by_cases hl : s.pub.length ≤ 65536 ∧ s.sec.length ≤ 65536
  · by_cases hT : s.T.May
    · refine (made13_c K s lv pv sv w h hL hl.1 hl.2 hT).mono ?_
      rintro _ u ⟨bb, F, G, rfl, ho, hg, -, hb⟩
      exact ⟨hb, .inl ⟨bb, F, G, rfl, ho, hg, hT, hl.1, hl.2⟩⟩
    · refine (made13_bad K s lv pv sv w h hL hl.1 hl.2 hT).mono ?_
      rintro _ u ⟨rfl, hb⟩
      exact ⟨hb, .inr ⟨rfl, fun _ => hT⟩⟩
  · refine (made13_long s lv pv sv w h hL (by omega)).mono ?_
    rintro _ u ⟨rfl, hb⟩
    exact ⟨hb, .inr ⟨rfl, fun hf => absurd (few_len hf) (by omega)⟩⟩
/-- A bus in a law's loop: apart from what is older than the law. -/
structure BusI (BO : Nat → Bs → Thing) (N : Nat) (w : World) (bb : Nat) (Q : Bs) (F G : Nat → Prop) (u : World) : Prop where
  o : BO bb Q F G u
  b : Below w.heap.size w u
  f : ∀ k, F k → N ≤ k
theorem BusI.below {BO : Nat → Bs → Thing} (K : BusK BO) {N : Nat} {w : World} {bb : Nat} {Q : Bs} {F G : Nat → Prop} {u v : World} (h : BusI BO N w bb Q F G u) (hb : Below u.heap.size u v) : BusI BO N w bb Q F G v :=
  ⟨(K.frm _ _).below h.o hb, Below.trans h.b (hb.mono h.b.size), h.f⟩
theorem BusI.move {BO : Nat → Bs → Thing} {N : Nat} {w : World} {bb : Nat} {Q Q' : Bs} {F G F' G' : Nat → Prop} {u v : World} (h : BusI BO N w bb Q F G u) (hN : w.heap.size ≤ N) (hN2 : N ≤ u.heap.size) (ho : BO bb Q' F' G' v) (hM : Mv F G F' G' u v) : BusI BO N w bb Q' F' G' v :=
  ⟨ho, hM.lowB h.b (fun k hk => by have := h.f k hk; omega) (Nat.le_refl _), hM.low h.f hN2⟩
theorem BusI.laid {BO : Nat → Bs → Thing} {N : Nat} {w : World} {bb : Nat} {Q : Bs} {F G : Nat → Prop} {u : World} (h : BusI BO N w bb Q F G u) (hL : Laid w) : Laid u := hL.keep (h.b.block 0 hL.lt)
theorem BusI.new {BO : Nat → Bs → Thing} (K : BusK BO) {N : Nat} {w : World} {bb : Nat} {Q : Bs} {F G : Nat → Prop} {u : World} (h : BusI BO N w bb Q F G u) {k : Nat} (hk : u.heap.size ≤ k) : ¬ F k := fun hf => by
  have := (K.frm _ _).lt h.o k ((K.frm _ _).sub h.o k hf); omega
theorem rdB_err (f : Int → Int × Int) (T : Tm) (S : Po) (W : Wh) (a : Int) : (rdB f T S W a).2.2 = if a < 0 ∨ 65535 < a then 10 else 0 := by
  unfold rdB
  by_cases h : a < 0 ∨ 65535 < a
  · rw [if_pos h, if_pos h]
  · rw [if_neg h, if_neg h]
    split
    · rfl
    · split
      · rfl
      · split
        · rfl
        · split <;> rfl
end Go.Proofs.YtcnejgilmciljaaGreatDoor
set_option linter.unusedSimpArgs false
set_option linter.unusedVariables false
namespace Go.Proofs.YtcnejgilmciljaaGreatDoor
open Go.RowKit Go.PlainAid

set_option maxRecDepth 100000 in
theorem irqn_c (w : World) : Calls Tryz.prog 81 #[.pointer none] w fun e w' => e = .returned (.bool false) ∧ Below w.heap.size w w' := by
  go_enter Tryz.func81, Tryz.ntmps81
  go_wp2
  go_ret
  exact ⟨rfl, by go_grown⟩
set_option maxRecDepth 100000 in
theorem irqp_c (tb o : Nat) (x : Tm) (w : World) (h : Tw tb o x w) : Calls Tryz.prog 81 #[.pointer (some ⟨tb, o, none⟩)] w fun e w' => e = .returned (.bool (x.g && x.s)) ∧ Below w.heap.size w w' := by
  obtain ⟨h0, h1, h2, h3, h4, h5⟩ := h.cells
  obtain ⟨l, c, r, a, s, g⟩ := x
  dsimp only at *
  clear h
  cases g
  all_goals
    go_enter Tryz.func81, Tryz.ntmps81
    go_wp2
    go_ret
    exact ⟨rfl, by go_grown⟩
set_option maxRecDepth 100000 in
theorem tickn_c (w : World) : Calls Tryz.prog 73 #[.pointer none] w fun e w' => e = .returned (.tuple #[]) ∧ Below w.heap.size w w' := by
  go_enter Tryz.func73, Tryz.ntmps73
  go_wp2
  go_end0
  exact ⟨rfl, by go_grown⟩
set_option maxRecDepth 100000 in
theorem tickp_c (tb o : Nat) (x : Tm) (hm : x.May) (w : World) (h : Tw tb o x w) : Calls Tryz.prog 73 #[.pointer (some ⟨tb, o, none⟩)] w (TmEnd tb o (.tuple #[]) (tickT x) w) := by
  obtain ⟨h0, h1, h2, h3, h4, h5⟩ := h.cells
  have f1 := h.f 1 (by omega)
  have f2 := h.f 2 (by omega)
  have f5 := h.f 5 (by omega)
  have HP := Lib.hid h.start
  obtain ⟨l, c, r, a, s, g⟩ := x
  obtain ⟨m1, m2⟩ := hm
  dsimp only at *
  clear h
  cases r
  · rw [tickT_still _ rfl]
    go_enter Tryz.func73, Tryz.ntmps73
    go_wp2
    go_end0
    exact ⟨rfl, HP.out⟩
  · by_cases hc : 0 < c
    · have e : tickT ⟨l, c, true, a, s, g⟩ = ⟨l, c - 1, true, a, s, g⟩ := by unfold tickT; rw [if_pos rfl, if_pos hc]
      rw [e]
      clear e
      go_enter Tryz.func73, Tryz.ntmps73
      go_wp2
      go_end0
      exact ⟨rfl, HP.out.setC (c - 1)⟩
    · cases a
      · have e : tickT ⟨l, c, true, false, s, g⟩ = ⟨l, c, false, false, s, true⟩ := by unfold tickT; rw [if_pos rfl, if_neg hc, if_neg (by simp)]
        rw [e]
        clear e
        go_enter Tryz.func73, Tryz.ntmps73
        go_wp2
        go_end0
        exact ⟨rfl, (HP.out.setG true).setR false⟩
      · have e : tickT ⟨l, c, true, true, s, g⟩ = ⟨l, l, true, true, s, true⟩ := by unfold tickT; rw [if_pos rfl, if_neg hc, if_pos rfl]
        rw [e]
        clear e
        go_enter Tryz.func73, Tryz.ntmps73
        go_wp2
        go_end0
        exact ⟨rfl, ((HP.out.setG true).setR true).setC l⟩
end Go.Proofs.YtcnejgilmciljaaGreatDoor
set_option linter.unusedSimpArgs false
set_option linter.unusedVariables false
namespace Go.Proofs.YtcnejgilmciljaaGreatDoor

theorem ofInt_w (a : Nat) (ha : a < 65536) : (BitVec.ofInt 64 (a : Int)).toNat = a := by
  rw [BitVec.ofInt_natCast, BitVec.toNat_ofNat]; exact Nat.mod_eq_of_lt (by omega)
theorem w_or_nat (a b : Nat) (ha : a < 65536) (hb : b < 65536) : bits .or .i64 (a : Int) (b : Int) = ((a ||| b : Nat) : Int) := by
  have hx : a ||| b < 2 ^ 16 := Nat.or_lt_two_pow (by omega) (by omega)
  show IntKind.i64.wrap ((BitVec.ofInt 64 (a : Int) ||| BitVec.ofInt 64 (b : Int)).toNat : Int) = _
  rw [BitVec.toNat_or, ofInt_w a ha, ofInt_w b hb]
  exact IntWalk.i64_in _ (by omega)
theorem w_andNot_nat (a b : Nat) (ha : a < 65536) (hb : b < 65536) : bits .andNot .i64 (a : Int) (b : Int) = ((a &&& (18446744073709551615 - b) : Nat) : Int) := by
  have hx : a &&& (18446744073709551615 - b) ≤ a := Nat.and_le_left
  show IntKind.i64.wrap ((BitVec.ofInt 64 (a : Int) &&& ~~~BitVec.ofInt 64 (b : Int)).toNat : Int) = _
  rw [BitVec.toNat_and, BitVec.toNat_not, ofInt_w a ha, ofInt_w b hb]
  have e : 2 ^ 64 - 1 - b = 18446744073709551615 - b := by omega
  rw [e]
  exact IntWalk.i64_in _ (by omega)
theorem or_low (q v : Nat) (hv : v < 256) : q * 256 ||| v = q * 256 + v := by
  have := Nat.shiftLeft_add_eq_or_of_lt (i := 8) (b := v) (by omega) q
  rw [Nat.shiftLeft_eq, show (2 : Nat) ^ 8 = 256 from rfl] at this
  omega
theorem low_byte (l v : Int) (hl : 0 ≤ l ∧ l < 65536) (hv : 0 ≤ v ∧ v ≤ 255) : bits .or .i64 (bits .andNot .i64 l 255) v = l / 256 * 256 + v := by
  obtain ⟨a, rfl⟩ : ∃ a : Nat, l = (a : Int) := ⟨l.toNat, by omega⟩
  obtain ⟨b, rfl⟩ : ∃ b : Nat, v = (b : Int) := ⟨v.toNat, by omega⟩
  have h1 := w_andNot_nat a 255 (by omega) (by omega)
  rw [show (18446744073709551615 - 255 : Nat) = 18446744073709551360 from rfl, nat_hi64_8, Nat.mod_eq_of_lt (by omega)] at h1
  rw [show ((255 : Nat) : Int) = 255 from rfl] at h1
  rw [h1, w_or_nat _ _ (by omega) (by omega), or_low _ _ (by omega)]
  omega
theorem mask_low (a : Nat) (ha : a < 65536) : a &&& 18446744073709486335 = a % 256 := by
  have e : a &&& 65535 = a := by
    rw [show (65535 : Nat) = 2 ^ 16 - 1 from rfl, Nat.and_two_pow_sub_one_eq_mod]
    exact Nat.mod_eq_of_lt (by omega)
  have h2 : a &&& 255 = a % 256 := by rw [show (255 : Nat) = 2 ^ 8 - 1 from rfl, Nat.and_two_pow_sub_one_eq_mod]
  rw [← h2]
  conv => lhs; rw [← e]
  rw [Nat.and_assoc, show (65535 &&& 18446744073709486335 : Nat) = 255 by decide]
theorem high_byte (l v : Int) (hl : 0 ≤ l ∧ l < 65536) (hv : 0 ≤ v ∧ v ≤ 255) : bits .or .i64 (bits .andNot .i64 l 65280) (v * 256) = l % 256 + 256 * v := by
  obtain ⟨a, rfl⟩ : ∃ a : Nat, l = (a : Int) := ⟨l.toNat, by omega⟩
  obtain ⟨b, rfl⟩ : ∃ b : Nat, v = (b : Int) := ⟨v.toNat, by omega⟩
  have h1 := w_andNot_nat a 65280 (by omega) (by omega)
  rw [show (18446744073709551615 - 65280 : Nat) = 18446744073709486335 from rfl, mask_low a (by omega)] at h1
  rw [show ((65280 : Nat) : Int) = 65280 from rfl] at h1
  rw [h1, show (b : Int) * 256 = ((b * 256 : Nat) : Int) by omega, w_or_nat _ _ (by omega) (by omega), Nat.or_comm, or_low _ _ (by omega)]
  omega
/-- A property of bytes, by each of them. -/
theorem byte_all (p : Int → Bool) (h : (List.range 256).all (fun n => p (n : Int)) = true) (v : Int) (hv : 0 ≤ v ∧ v ≤ 255) : p v = true := by
  have := List.all_eq_true.1 h v.toNat (List.mem_range.2 (by omega))
  rwa [show (v.toNat : Int) = v by omega] at this
theorem on1 (v : Int) (hv : 0 ≤ v ∧ v ≤ 255) : (bits .and .u8 v 1 == 1) = onT v 1 := by
  have := byte_all (fun v => (bits .and .u8 v 1 == 1) == onT v 1) (by decide +kernel) v hv
  simpa using this
theorem on2 (v : Int) (hv : 0 ≤ v ∧ v ≤ 255) : (bits .and .u8 (v / 2) 1 == 1) = onT v 2 := by
  have := byte_all (fun v => (bits .and .u8 (v / 2) 1 == 1) == onT v 2) (by decide +kernel) v hv
  simpa using this
theorem on4 (v : Int) (hv : 0 ≤ v ∧ v ≤ 255) : (bits .and .u8 (v / 4) 1 == 1) = onT v 4 := by
  have := byte_all (fun v => (bits .and .u8 (v / 4) 1 == 1) == onT v 4) (by decide +kernel) v hv
  simpa using this
/-- The control byte's three bits, read again. -/
theorem ctrl_on (v : Int) (hv : 0 ≤ v ∧ v ≤ 255) : ctrlT (onT v 1) (onT v 2) (onT v 4) = v % 8 := by
  have := byte_all (fun v => ctrlT (onT v 1) (onT v 2) (onT v 4) == v % 8) (by decide +kernel) v hv
  simpa using this
theorem ctrl_byte (r a s : Bool) : 0 ≤ ctrlT r a s ∧ ctrlT r a s ≤ 7 := by cases r <;> cases a <;> cases s <;> decide
end Go.Proofs.YtcnejgilmciljaaGreatDoor
set_option linter.unusedSimpArgs false
set_option linter.unusedVariables false
namespace Go.Proofs.YtcnejgilmciljaaGreatDoor
open Go.RowKit Go.PlainAid

def mayI (n : Int) : Bool := decide (0 ≤ n) && decide (n ≤ 65535)
set_option maxRecDepth 100000 in
theorem maybe_c (n : Int) (w : World) : Calls Tryz.prog 91 #[.int .i64 n] w fun e w' => e = .returned (.bool (mayI n)) ∧ Below w.heap.size w w' := by
  unfold mayI
  by_cases h1 : 0 ≤ n
  case neg =>
    rw [show decide (0 ≤ n) = false by simpa using h1, Bool.false_and]
    go_enter Tryz.func91, Tryz.ntmps91
    go_wp2
    go_ret
    exact ⟨rfl, by go_grown⟩
  rw [show decide (0 ≤ n) = true by simpa using h1, Bool.true_and]
  go_enter Tryz.func91, Tryz.ntmps91
  go_wp2
  all_goals
    go_ret
    exact ⟨by simp [*], by go_grown⟩
set_option maxRecDepth 100000 in
theorem has0_c (v : Int) (hv : 0 ≤ v ∧ v ≤ 255) (w : World) : Calls Tryz.prog 121 #[.int .u8 v, .int .i64 0] w fun e w' => e = .returned (.bool (onT v 1)) ∧ Below w.heap.size w w' := by
  have e := on1 v hv
  generalize onT v 1 = R at *
  go_enter Tryz.func121, Tryz.ntmps121
  go_wp2
  go_ret
  exact ⟨rfl, by go_grown⟩
set_option maxRecDepth 100000 in
theorem has1_c (v : Int) (hv : 0 ≤ v ∧ v ≤ 255) (w : World) : Calls Tryz.prog 121 #[.int .u8 v, .int .i64 1] w fun e w' => e = .returned (.bool (onT v 2)) ∧ Below w.heap.size w w' := by
  have e := on2 v hv
  generalize onT v 2 = R at *
  go_enter Tryz.func121, Tryz.ntmps121
  go_wp2
  go_ret
  exact ⟨rfl, by go_grown⟩
set_option maxRecDepth 100000 in
theorem has2_c (v : Int) (hv : 0 ≤ v ∧ v ≤ 255) (w : World) : Calls Tryz.prog 121 #[.int .u8 v, .int .i64 2] w fun e w' => e = .returned (.bool (onT v 4)) ∧ Below w.heap.size w w' := by
  have e := on4 v hv
  generalize onT v 4 = R at *
  go_enter Tryz.func121, Tryz.ntmps121
  go_wp2
  go_ret
  exact ⟨rfl, by go_grown⟩
set_option maxRecDepth 100000 in
theorem control_c (v : Int) (hv : 0 ≤ v ∧ v ≤ 255) (tb o : Nat) (x : Tm) (w : World) (h : Tw tb o x w) : Calls Tryz.prog 108 #[.pointer (some ⟨tb, o, none⟩), .int .u8 v] w (TmEnd tb o (.tuple #[]) (ctlT x v) w) := by
  have HH0 := Lib.hid (fun W => has0_c v hv W)
  have HH1 := Lib.hid (fun W => has1_c v hv W)
  have HH2 := Lib.hid (fun W => has2_c v hv W)
  unfold ctlT
  generalize onT v 1 = R at *
  generalize onT v 2 = A at *
  generalize onT v 4 = S at *
  have HP := Lib.hid h.start
  have hlt := h.lt
  obtain ⟨l, c, r, a, s, g⟩ := x
  dsimp only at *
  clear h
  cases R
  all_goals
    go_enter Tryz.func108, Tryz.ntmps108
    go_wp2_with fail
    ((with_reducible refine (HH0.out _).mono ?_); rintro _ u1 ⟨rfl, hb⟩)
    have hz := hb.size
    (try simp only [World.size_alloc, World.size_setCell, World.size_drew] at hz)
    have hB' : Below w.heap.size w u1 := by
        refine kb ?_ hb
        go_grown
    clear hb hz
    have hB := hB'; clear hB'
    have hsz := hB.size
    go_wp2_with fail
    ((with_reducible refine (HH1.out _).mono ?_); rintro _ u2 ⟨rfl, hb⟩)
    have hz := hb.size
    (try simp only [World.size_alloc, World.size_setCell, World.size_drew] at hz)
    have hB' : Below w.heap.size w u2 := by
        refine kb ?_ hb
        go_grown
    clear hB hsz
    clear hb hz
    have hB := hB'; clear hB'
    have hsz := hB.size
    go_wp2_with fail
    ((with_reducible refine (HH2.out _).mono ?_); rintro _ u3 ⟨rfl, hb⟩)
    have hz := hb.size
    (try simp only [World.size_alloc, World.size_setCell, World.size_drew] at hz)
    have hB' : Below w.heap.size w u3 := by
        refine kb ?_ hb
        go_grown
    clear hB hsz
    clear hb hz
    have hB := hB'; clear hB'
    have hsz := hB.size
    have HP3 := Lib.hid (HP.out.below hlt hB)
    obtain ⟨h0, h1, h2, h3, h4, h5⟩ := HP3.out.t.cells
    dsimp only at h0 h1 h2 h3 h4 h5
    have f1 := HP3.out.t.f 1 (by omega)
    have f2 := HP3.out.t.f 2 (by omega)
    have f3 := HP3.out.t.f 3 (by omega)
    have f4 := HP3.out.t.f 4 (by omega)
    go_wp2
    go_end0
    first
    | exact ⟨rfl, (((HP3.out.setR _).setA _).setS _).setC l⟩
    | exact ⟨rfl, ((HP3.out.setR _).setA _).setS _⟩
set_option maxRecDepth 100000 in
theorem writen_t (reg v : Int) (w : World) : Calls Tryz.prog 103 #[.pointer none, .int .i64 reg, .int .u8 v] w fun e w' => e = .returned (.int .i64 2) ∧ Below w.heap.size w w' := by
  go_enter Tryz.func103, Tryz.ntmps103
  go_wp2
  go_ret
  exact ⟨rfl, by go_grown⟩
set_option maxRecDepth 100000 in
set_option maxHeartbeats 1000000 in
theorem writep_t (reg v : Int) (hv : 0 ≤ v ∧ v ≤ 255) (tb o : Nat) (x : Tm) (hm : x.May) (w : World) (h : Tw tb o x w) : Calls Tryz.prog 103 #[.pointer (some ⟨tb, o, none⟩), .int .i64 reg, .int .u8 v] w (TmEnd tb o (.int .i64 (regE reg)) (writeT x reg v) w) := by
  have HC := Lib.hid (control_c v hv tb o x w h)
  obtain ⟨h0, h1, h2, h3, h4, h5⟩ := h.cells
  have f0 := h.f 0 (by omega)
  rw [Nat.add_zero] at f0
  have f5 := h.f 5 (by omega)
  have HP := Lib.hid h.start
  obtain ⟨l, c, r, a, s, g⟩ := x
  obtain ⟨m1, m2⟩ := hm
  dsimp only at *
  clear h
  rcases reg_cases reg with rfl | rfl | rfl | rfl | ⟨n0, n1, n2, n3⟩
  · have e : writeT ⟨l, c, r, a, s, g⟩ 0 v = ⟨l / 256 * 256 + v, c, r, a, s, g⟩ := rfl
    rw [e]
    have eb := low_byte l v m1 hv
    generalize l / 256 * 256 + v = N at *
    go_enter Tryz.func103, Tryz.ntmps103
    go_wp2
    go_ret
    exact ⟨rfl, HP.out.setL _⟩
  · have e : writeT ⟨l, c, r, a, s, g⟩ 1 v = ⟨l % 256 + 256 * v, c, r, a, s, g⟩ := rfl
    rw [e]
    have eb := high_byte l v m1 hv
    generalize l % 256 + 256 * v = N at *
    go_enter Tryz.func103, Tryz.ntmps103
    go_wp2
    go_ret
    exact ⟨rfl, HP.out.setL _⟩
  · have e : writeT ⟨l, c, r, a, s, g⟩ 2 v = ctlT ⟨l, c, r, a, s, g⟩ v := rfl
    rw [e]
    generalize ctlT ⟨l, c, r, a, s, g⟩ v = Y at *
    clear e
    go_enter Tryz.func103, Tryz.ntmps103
    go_wp2_with fail
    refine HC.out.mono ?_
    rintro _ u ⟨rfl, hT⟩
    have HT := Lib.hid hT
    clear hT
    go_wp2
    go_ret
    exact ⟨rfl, HT.out⟩
  · have e : writeT ⟨l, c, r, a, s, g⟩ 3 v = ⟨l, c, r, a, s, false⟩ := rfl
    rw [e]
    go_enter Tryz.func103, Tryz.ntmps103
    go_wp2
    go_ret
    exact ⟨rfl, HP.out.setG _⟩
  · have e : writeT ⟨l, c, r, a, s, g⟩ reg v = ⟨l, c, r, a, s, g⟩ := by unfold writeT; rw [if_neg n0, if_neg n1, if_neg n2, if_neg n3]
    have eE : regE reg = 10 := by unfold regE; rw [if_neg (by omega)]
    rw [e, eE]
    have d0 : (reg == 0) = false := by simpa using n0
    have d1 : (reg == 1) = false := by simpa using n1
    have d2 : (reg == 2) = false := by simpa using n2
    have d3 : (reg == 3) = false := by simpa using n3
    clear n0 n1 n2 n3 e eE
    go_enter Tryz.func103, Tryz.ntmps103
    go_wp2
    go_ret
    exact ⟨rfl, HP.out⟩
end Go.Proofs.YtcnejgilmciljaaGreatDoor
