/-
  Layer 13's laws: the chapter's examples.
  The program: Same, of bytes and of memories.
-/
import Derived.Test.YtcnejgilmciljaaDoorOutp11
import Derived.Test.YtcnejgilmciljaaDoorLast11
set_option linter.unusedSimpArgs false
set_option linter.unusedVariables false
namespace Go.Proofs.YtcnejgilmciljaaDoor
open Go.RowKit Go.PlainAid

/-- Calls that answer ports; bytes. -/
def kPorts (S : Po) : KdR := .any undef (fun v => (∃ b, v = .pointer (some ⟨b, 0, none⟩)) ∨ v = undef) (fun x w => ∃ b F G, x.v = .pointer (some ⟨b, 0, none⟩) ∧ PO b S F G w)
theorem kPorts_fine (S : Po) : (kPorts S).Fine := ⟨.inr rfl, fun x W w1 h hb => by obtain ⟨b, F, G, e, h⟩ := h; exact ⟨b, F, G, e, (PO.frm _ _).below h hb⟩, fun x w h => by obtain ⟨b, _, _, e, _⟩ := h; exact .inl ⟨b, e⟩⟩
def kBy (l : List Int) : KdR := .any undef (fun _ => True) (fun x w => HoldsW bE 1 w x.v l)
theorem kBy_fine (l : List Int) : (kBy l).Fine := ⟨trivial, fun x W w1 h hb => h.below hb, fun _ _ _ => trivial⟩
theorem holds_one13 {W : World} (x : Int) (T : TypeId) : HoldsW bE 1 (W.alloc (.cells #[.int .u8 x] T)) (.slice (some ⟨W.heap.size, 0, none⟩) 1 1) [x] := by
  refine .inr ⟨W.heap.size, 0, 1, rfl, Nat.le_refl _, fun j y hj i u hu => ?_⟩
  match j, hj with
  | 0, hj =>
    obtain rfl : x = y := by simpa using hj
    match i, hu with
    | 0, hu =>
      obtain rfl : Value.int .u8 x = u := by simpa [bE] using hu
      rw [cell_of_row _ _ _ _ _ _ (heap_alloc_new W (.cells #[.int .u8 x] T))]
      rfl
    | i + 1, hu => simp [bE] at hu
  | j + 1, hj => simp at hj
def awB1 : Bs := wrQ noB 32774 6 0
theorem awB1_eq : awB1 = ⟨zeroM, ⟨0, 0, false, false, false, false⟩, ⟨[], [], [6], [], [], []⟩, wh0, 1⟩ := by
  have h1 : wrB noB.S 32774 0 = (0, 0) := by decide
  have h2 : wrPs noB.S 32774 6 0 noB.n = ⟨[], [], [6], [], [], []⟩ := by unfold wrPs wrPo; rw [if_pos (by decide), if_neg (by decide)]; rfl
  have h3 : wrM noB.M 32774 6 0 = zeroM := by unfold wrM; rw [if_neg (by decide)]; rfl
  have h4 : wrT noB.T 32774 6 = noB.T := by unfold wrT; rw [if_neg (by decide)]
  have h5 : wrWh noB.W 32774 6 = noB.W := by unfold wrWh; rw [if_neg (by decide)]
  unfold awB1 wrQ
  rw [h1, if_neg (by decide), h2, h3, h4, h5]
  rfl
set_option maxRecDepth 100000 in
set_option maxHeartbeats 8000000 in
theorem awake13_c {BO : Nat → Bs → Thing} (K : BusK BO) (w : World) (hL : Laid w) :
    Calls Tryd.prog 20 #[] w fun e w' => e = .returned (.bool true) ∧ Below w.heap.size w w' := by
  have HK := Lib.hid K
  have HL := Lib.hid hL
  have HM := Lib.hid (made0_c K w hL.lt)
  have HR1 : Room 999999 awB1 := noB_room.write 32774 6 0 (by omega)
  have hrb : rdB (memV awB1.M) awB1.T awB1.S awB1.W 32782 = (255, 0, 0) := by rw [awB1_eq]; unfold rdB; rw [if_neg (by omega), if_neg (by decide), if_neg (by omega), if_neg (by omega), if_neg (by omega)]
  have hrs : (rdQ awB1 32782).S = ⟨[], [], [6], [], [], []⟩ := by rw [awB1_eq]; rfl
  have hn1 : awB1.n = 1 := by rw [awB1_eq]
  have hfit : Fit (rdQ awB1 32782).S := (HR1.read 32782).s
  have HW := Lib.hid (fun bb F G W hW hb => K.write bb noB F G 32774 6 0 W ⟨by decide, by decide⟩ noB_room.may (by omega) (by omega) hW hb)
  rw [show wrBV (wrB noB.S 32774 0) = .tuple #[.int .i64 0, .int .i64 0] from by rw [show wrB noB.S 32774 0 = (0, 0) from by decide]; rfl] at HW
  have HC := Lib.hid (fun bb F G W hb => K.cycles bb awB1 F G W hb)
  rw [hn1] at HC
  have HP1 := Lib.hid (fun bb F G W hb => K.ports bb awB1 F G W HR1.s hb)
  have HRD := Lib.hid (fun bb F G W hW hb => K.read bb awB1 F G 32782 W ⟨by decide, by decide⟩ HR1.may hW hb)
  rw [hrb] at HRD
  have HP2 := Lib.hid (fun bb F G W hb => K.ports bb (rdQ awB1 32782) F G W hfit hb)
  rw [hrs] at HP2 hfit
  have HFT := Lib.hid hfit
  have HFrm := Lib.hid K.frm
  have ho1 := Lib.hid (fun W => taintof_c 6 W)
  have ho2 := Lib.hid (fun W => taintof_c 255 W)
  rw [show IntKind.u8.wrap 6 = 6 from by decide] at ho1
  rw [show IntKind.u8.wrap 255 = 255 from by decide] at ho2
  generalize rdQ awB1 32782 = Q2 at *
  have hQ1 : wrQ noB 32774 6 0 = awB1 := rfl
  rw [hQ1] at HW
  generalize awB1 = Q1 at *
  unfold TEnd at HW HRD
  clear hrb hrs hn1 hfit hQ1 HR1 hL HK K
  go_enter Tryd.func20, Tryd.ntmps20
  go_wp2_with fail
  refine HM.out.mono ?_
  rintro _ u ⟨bb, F, G, rfl, ho, hg, hl, hb⟩
  have HO := Lib.hid ho
  have HB := Lib.hid hb
  have HG := Lib.hid (fun k (hk : F k) => hg k ((HFrm.out _ _).sub ho k hk))
  have HLu := Lib.hid (HL.out.below hb)
  clear ho hg hl hb HM
  go_wp2_with fail
  refine (ho1.out _).mono ?_
  rintro _ u1 ⟨rfl, hb⟩
  have HB1 := Lib.hid (Below.trans HB.out (hb.mono HB.out.size))
  have HO1 := Lib.hid ((HFrm.out _ _).below HO.out hb)
  have HL1 := Lib.hid (HLu.out.below hb)
  clear hb HO HLu HB
  go_wp2_with fail
  refine (HW.out bb F G _ HL1.out HO1.out).mono ?_
  rintro _ u2 ⟨rfl, F2, G2, ho, hM⟩
  have HO2 := Lib.hid ho
  have HB2 := Lib.hid (hM.lowB HB1.out HG.out (Nat.le_refl _))
  have HG2 := Lib.hid (hM.low HG.out HB1.out.size)
  have HL2 := Lib.hid (HL.out.keep (HB2.out.block 0 HL.out.lt))
  clear ho hM HO1 HB1 HG HL1
  go_wp2_with fail
  refine (HC.out bb F2 G2 _ HO2.out).mono ?_
  rintro _ u3 ⟨rfl, hb⟩
  have HB3 := Lib.hid (Below.trans HB2.out (hb.mono HB2.out.size))
  have HO3 := Lib.hid ((HFrm.out _ _).below HO2.out hb)
  clear hb HO2 HB2 HL2
  go_wp2_with fail
  refine (HP1.out bb F2 G2 _ HO3.out).mono ?_
  rintro _ u4 ⟨pb, Fp, Gp, rfl, -, -, -, hb⟩
  have HB4 := Lib.hid (Below.trans HB3.out (hb.mono HB3.out.size))
  have HO4 := Lib.hid ((HFrm.out _ _).below HO3.out hb)
  have HL4 := Lib.hid (HL.out.keep (HB4.out.block 0 HL.out.lt))
  clear hb HO3 HB3
  go_wp2_with fail
  refine (HRD.out bb F2 G2 _ HL4.out HO4.out).mono ?_
  rintro _ u5 ⟨rfl, F5, G5, ho, hM⟩
  have HO5 := Lib.hid ho
  have HB5 := Lib.hid (hM.lowB HB4.out HG2.out (Nat.le_refl _))
  have hz5 := HB5.out.size
  clear ho hM HO4 HB4 HG2 HL4
  unfold rdBV
  dsimp only
  go_upto_region 8 with fail
  obtain ⟨u6, hu6⟩ : ∃ W, W = u5.alloc (Obj.cells #[Value.int .u8 255, Value.int .u8 0] 23) := ⟨_, rfl⟩
  have k0 : u6.cell? ⟨u5.heap.size, 0, none⟩ = some (.int .u8 255) := by rw [hu6]; go_simp; first | done | rfl
  have k1 : u6.cell? ⟨u5.heap.size, 1, none⟩ = some (.int .u8 0) := by rw [hu6]; go_simp; first | done | rfl
  have hb6 : Below u5.heap.size u5 u6 := by rw [hu6]; go_grown
  have HB6 := Lib.hid (Below.trans HB5.out (hb6.mono hz5))
  have HO6 := Lib.hid ((HFrm.out _ _).below HO5.out hb6)
  rw [← hu6]
  clear hu6 hb6 HO5 HB5
  have hI0 := Below.refl u6.heap.size u6
  have HP3 := Lib.hid (fun W (hW : Below u6.heap.size u6 W) => HP2.out bb F5 G5 W ((HFrm.out _ _).below HO6.out hW))
  refine wp_region_planR 15 (fun W => W.cell? ⟨u5.heap.size, 0, none⟩ = some (.int .u8 255) ∧ W.cell? ⟨u5.heap.size, 1, none⟩ = some (.int .u8 0) ∧ Below u6.heap.size u6 W)
    [.val (.agg #[.int .u8 255, .int .u8 0]), kAnsB (.agg #[.int .u8 255, .int .u8 0]), .val (.bool true), .val (.bool true), .val (.int .i64 0), .val (.bool true), .val (.bool true), .val (.bool true), .val (.pointer (some ⟨bb, 0, none⟩)),
      kPorts ⟨[], [], [6], [], [], []⟩, kBy [6], kBy [6], kAnsB (.bool true), .val (.bool true), .val (.bool true)]
    (by kernel_rfl) (by kernel_rfl) (by kernel_rfl) (by kernel_rfl) (by kernel_rfl) (fun W w1 h hb => ⟨kc hb h.1, kc hb h.2.1, h.2.2.trans (hb.mono h.2.2.size)⟩) ?_ ?_ ?_
  · intro k hk
    simp only [List.mem_cons, List.not_mem_nil, or_false] at hk
    rcases hk with rfl | rfl | rfl | rfl | rfl | rfl | rfl | rfl | rfl | rfl | rfl | rfl | rfl | rfl | rfl <;> first | exact trivial | exact kAnsB_fine _ | exact kPorts_fine _ | exact kBy_fine _
  · exact ⟨by go_simp, by go_simp, Below.drew hI0⟩
  (try simp only [List.append_eq, List.cons_append, List.nil_append, List.toList_toArray, List.take_succ_cons, List.take_zero, List.drop_succ_cons, List.drop_zero])
  (refine PlanR.val ?_ ?_ ?_; (· rfl); (· (intro W hSw; (try dsimp only at hSw); go_simp; all_goals (first | (with_reducible rfl) | (constructor <;> (with_reducible rfl))))); intro _ _; (try simp only [Act.put, List.setIfInBounds_toArray, List.set_cons_zero, List.set_cons_succ]))
  refine PlanR.any ?_ ?_ ?_
  · rfl
  · intro W hSw _
    (try dsimp only at hSw)
    go_simp
    refine ⟨rfl, (ho2.out W).mono ?_⟩
    rintro _ u ⟨rfl, hb⟩
    exact ⟨_, rfl, hb, rfl⟩
  rintro ⟨_, lo1, hi1⟩ rfl
  (try simp only [Act.put, List.setIfInBounds_toArray, List.set_cons_zero, List.set_cons_succ])
  (iterate 7 (refine PlanR.val ?_ ?_ ?_; (· rfl); (· (intro W hSw; (try dsimp only at hSw); go_simp; all_goals (first | (with_reducible rfl) | (constructor <;> (with_reducible rfl))))); intro _ _; (try simp only [Act.put, List.setIfInBounds_toArray, List.set_cons_zero, List.set_cons_succ])))
  refine PlanR.any ?_ ?_ ?_
  · rfl
  · intro W hSw _
    (try dsimp only at hSw)
    go_simp
    refine ⟨rfl, (HP3.out W hSw.2.2).mono ?_⟩
    rintro _ u ⟨b, F, G, rfl, ho, hg, hl, hb⟩
    exact ⟨_, rfl, hb, by first | exact ⟨b, F, G, rfl, ho⟩ | exact ⟨b, rfl, F, G, ho⟩⟩
  rintro ⟨pv, lo2, hi2⟩ hok2
  (try simp only [Act.put, List.setIfInBounds_toArray, List.set_cons_zero, List.set_cons_succ])
  refine PlanR.any ?_ ?_ ?_
  · rfl
  · intro W hSw hKn
    obtain ⟨b, F, G, hpv, ho⟩ : ∃ b F G, pv = .pointer (some ⟨b, 0, none⟩) ∧ PO b ⟨[], [], [6], [], [], []⟩ F G W := hKn 9 (by decide) (by kernel_rfl)
    subst hpv
    (try dsimp only at hSw)
    go_simp
    refine ⟨rfl, (out_b b _ HFT.out F G W ho).mono ?_⟩
    rintro _ u ⟨v', rfl, hr, hb⟩
    exact ⟨_, rfl, hb, HoldsW.own bE_len hr⟩
  rintro ⟨ov, lo3, hi3⟩ -
  (try simp only [Act.put, List.setIfInBounds_toArray, List.set_cons_zero, List.set_cons_succ])
  refine PlanR.any ?_ ?_ ?_
  · rfl
  · intro W hSw hKn
    (try dsimp only at hSw)
    go_simp
    exact ⟨by go_grown, holds_one13 6 _⟩
  rintro ⟨sv, lo4, hi4⟩ -
  (try simp only [Act.put, List.setIfInBounds_toArray, List.set_cons_zero, List.set_cons_succ])
  refine PlanR.any ?_ ?_ ?_
  · rfl
  · intro W hSw hKn
    have h1 : HoldsW bE 1 W ov [6] := hKn 10 (by decide) (by kernel_rfl)
    have h2 : HoldsW bE 1 W sv [6] := hKn 11 (by decide) (by kernel_rfl)
    (try dsimp only at hSw)
    go_simp
    refine ⟨rfl, (bytes13_c [6] (by decide) ov sv W h1 h2).mono ?_⟩
    rintro _ u ⟨rfl, hb⟩
    exact ⟨_, rfl, hb, rfl⟩
  rintro ⟨_, lo5, hi5⟩ rfl
  (try simp only [Act.put, List.setIfInBounds_toArray, List.set_cons_zero, List.set_cons_succ])
  (iterate 2 (refine PlanR.val ?_ ?_ ?_; (· rfl); (· (intro W hSw; (try dsimp only at hSw); go_simp; all_goals (first | (with_reducible rfl) | (constructor <;> (with_reducible rfl))))); intro _ _; (try simp only [Act.put, List.setIfInBounds_toArray, List.set_cons_zero, List.set_cons_succ])))
  refine PlanR.done ?_
  intro u7 GG
  have HB7 := Lib.hid (Below.trans HB6.out (GG.s.2.2.mono HB6.out.size))
  clear GG hok2
  go_wp2
  go_ret
  exact ⟨rfl, HB7.out⟩
end Go.Proofs.YtcnejgilmciljaaDoor
set_option linter.unusedSimpArgs false
set_option linter.unusedVariables false
namespace Go.Proofs.YtcnejgilmciljaaDoor
open Go.RowKit Go.PlainAid

section
variable {P : Program} {ops : Array Oper} {S : World → Prop} {K : Act → Prop} {o : Oper} {r : List Oper} {a : Act}
theorem run_load_op {ty : TypeId} {x : Operand} (p : Value) {v : Value} {w : World} (ho : o.op = .load ty x) (hx : a.eval x = p) (hr : (Instr.loadAt ty p).run P w = .ok v w) : (execOp a.eval o).run P w = .ok (.value v) w := by
  unfold execOp
  simp only [ho, hx, Sem.run_bind, hr, Result.andThen_ok, Sem.run_pure]
theorem run_eql_op {ty t2 : TypeId} {x y : Operand} (A B : Array Value) {v : Value} {w : World} (ho : o.op = .binOp .eql ty x y t2) (hx : a.eval x = .agg A) (hy : a.eval y = .agg B) (hm : P.eqGuardType P.depth ty = false)
    (hr : (binOp .eql ty (.agg A) (.agg B)).run P w = .ok v w) : (execOp a.eval o).run P w = .ok (.value v) w := by
  unfold execOp
  simp only [ho, hx, hy, Sem.run_bind, run_eqGuard_agg w .eql ty x y A B hm, hr, Result.andThen_ok, Sem.run_pure]
theorem Plan.loadBig {ty : TypeId} {x : Operand} (p v : Value) (hw : Region.wanted o (yielded ops a.tmps) = true) (ho : o.op = .load ty x) (hx : a.eval x = p) (hr : ∀ w, S w → (Instr.loadAt ty p).run P w = .ok v w)
    (h : Plan P ops S K r (a.put o.dst v)) : Plan P ops S K (o :: r) a := Plan.val hw (fun w hS => run_load_op p ho hx (hr w hS)) h
theorem Plan.eqlBig {ty t2 : TypeId} {x y : Operand} (A B : Array Value) (v : Value) (hw : Region.wanted o (yielded ops a.tmps) = true) (ho : o.op = .binOp .eql ty x y t2) (hx : a.eval x = .agg A) (hy : a.eval y = .agg B) (hm : P.eqGuardType P.depth ty = false)
    (hr : ∀ w, S w → (binOp .eql ty (.agg A) (.agg B)).run P w = .ok v w) (h : Plan P ops S K r (a.put o.dst v)) : Plan P ops S K (o :: r) a := Plan.val hw (fun w hS => run_eql_op A B ho hx hy hm (hr w hS)) h
end
def sameI (a b : Int × Int) : Bool := (a.2 == b.2) && (bits .andNot .u8 a.1 a.2 == bits .andNot .u8 b.1 b.2)
theorem sameI_refl (a : Int × Int) : sameI a a = true := by unfold sameI; simp
set_option maxRecDepth 100000 in
theorem taints_c (v t v' t' : Int) (w : World) : Calls Tryd.prog 53 #[.agg #[.int .u8 v, .int .u8 t], .agg #[.int .u8 v', .int .u8 t']] w fun e w' => e = .returned (.bool (sameI (v, t) (v', t'))) ∧ Below w.heap.size w w' := by
  unfold sameI
  dsimp only
  cases d1 : (t == t')
  · go_enter Tryd.func53, Tryd.ntmps53
    go_wp2
    go_ret
    exact ⟨rfl, by go_grown⟩
  · go_enter Tryd.func53, Tryd.ntmps53
    go_wp2
    go_ret
    exact ⟨by simp, by go_grown⟩
def sameM (M N : Int → Int × Int) : Bool := (List.range 65536).all fun k => sameI (M k) (N k)
theorem sameM_iff (M N : Int → Int × Int) : sameM M N = true ↔ ∀ k : Nat, k < 65536 → sameI (M k) (N k) = true := by
  unfold sameM
  rw [List.all_eq_true]
  exact ⟨fun h k hk => h k (List.mem_range.2 hk), fun h k hk => h k (List.mem_range.1 hk)⟩
theorem sameM_refl (M : Int → Int × Int) : sameM M M = true := (sameM_iff M M).2 fun k _ => sameI_refl _
theorem eq_same {M N : Int → Int × Int} (h : eqM M N = true) : sameM M N = true := (sameM_iff M N).2 fun k hk => by rw [(eqM_iff M N).1 h k hk]; exact sameI_refl _
theorem guard_arr : Tryd.prog.eqGuardType Tryd.prog.depth 77 = false := by kernel_rfl
set_option maxRecDepth 100000 in
theorem samenn_c (w : World) : Calls Tryd.prog 34 #[.pointer none, .pointer none] w fun e w' => e = .returned (.bool true) ∧ Below w.heap.size w w' := by
  go_enter Tryd.func34, Tryd.ntmps34
  go_wp2
  go_ret
  exact ⟨rfl, by go_grown⟩
set_option maxRecDepth 100000 in
theorem samenp_c (p : Addr) (w : World) : Calls Tryd.prog 34 #[.pointer none, .pointer (some p)] w fun e w' => e = .returned (.bool false) ∧ Below w.heap.size w w' := by
  go_enter Tryd.func34, Tryd.ntmps34
  go_wp2
  go_ret
  exact ⟨rfl, by go_grown⟩
set_option maxRecDepth 100000 in
theorem samepn_c (p : Addr) (w : World) : Calls Tryd.prog 34 #[.pointer (some p), .pointer none] w fun e w' => e = .returned (.bool false) ∧ Below w.heap.size w w' := by
  go_enter Tryd.func34, Tryd.ntmps34
  go_wp2
  go_ret
  exact ⟨rfl, by go_grown⟩
set_option maxRecDepth 100000 in
set_option maxHeartbeats 4000000 in
theorem samep_c (M N : Int → Int × Int) (mb bb nb nbb : Nat) (w : World) (hP : Pm mb bb w M) (hQ : Pm nb nbb w N) :
    Calls Tryd.prog 34 #[.pointer (some ⟨mb, 0, none⟩), .pointer (some ⟨nb, 0, none⟩)] w fun e w' => e = .returned (.bool (sameM M N)) ∧ Below w.heap.size w w' := by
  obtain ⟨R, hR⟩ : ∃ R, sameM M N = R := ⟨_, rfl⟩
  rw [hR]
  have HR := Lib.hid hR
  clear hR
  have HP := Lib.hid hP
  have HQ := Lib.hid hQ
  have hm_0 := hP.c0
  have hn_0 := hQ.c0
  have hmw : mb < w.heap.size := klt hm_0
  have hnw : nb < w.heap.size := klt hn_0
  obtain ⟨A, tA, hrA, hA⟩ := hP.row
  obtain ⟨B, tB, hrB, hB2⟩ := hQ.row
  have HrA := Lib.hid (fun (W : World) (h : Below w.heap.size w W) => load_arr ((h.block bb hP.lt).trans hrA) hA.sz)
  have HrB := Lib.hid (fun (W : World) (h : Below w.heap.size w W) => load_arr ((h.block nbb hQ.lt).trans hrB) hB2.sz)
  have HE := Lib.hid (fun W => eql_arr hA hB2 W)
  have HES := Lib.hid (fun h : eqM M N = true => eq_same h)
  have hbw := hP.lt
  have hnbw := hQ.lt
  clear hP hQ hrA hrB hA hB2
  generalize eqM M N = E at *
  go_enter Tryd.func34, Tryd.ntmps34
  go_upto_region 3 with fail
  refine wp_region_plan (fun w' => w'.cell? ⟨mb, 0, none⟩ = some (.pointer (some ⟨bb, 0, none⟩)) ∧ w'.cell? ⟨nb, 0, none⟩ = some (.pointer (some ⟨nbb, 0, none⟩)) ∧ Below w.heap.size w w') (by kernel_rfl) (by kernel_rfl) (by kernel_rfl) ?_ ?_
  · (try dsimp only)
    refine ⟨?_, ?_, ?_⟩ <;> first | (go_simp; done) | (simp [*]; done) | go_grown
  repeat (first
    | ((refine Plan.loadBig (.pointer (some ⟨bb, 0, none⟩)) (.agg A) rfl rfl rfl (fun W hSw => HrA.out W hSw.2.2) ?_); (try simp only [Act.put, List.setIfInBounds_toArray, List.set_cons_zero, List.set_cons_succ]))
    | ((refine Plan.loadBig (.pointer (some ⟨nbb, 0, none⟩)) (.agg B) rfl rfl rfl (fun W hSw => HrB.out W hSw.2.2) ?_); (try simp only [Act.put, List.setIfInBounds_toArray, List.set_cons_zero, List.set_cons_succ]))
    | ((refine Plan.eqlBig A B (.bool E) rfl rfl rfl rfl guard_arr (fun W _ => HE.out W) ?_); (try simp only [Act.put, List.setIfInBounds_toArray, List.set_cons_zero, List.set_cons_succ]))
    | (refine Plan.val (v := ?_) ?_ ?_ ?_; rotate_left; (· rfl); (· (intro W hSw; (try dsimp only at hSw); go_simp; all_goals (first | (with_reducible rfl) | (constructor <;> (with_reducible rfl)) | (rw [if_neg (by omega)]; done) | (rw [if_neg (by omega)]; with_reducible rfl)))); (try simp only [Act.put, List.setIfInBounds_toArray, List.set_cons_zero, List.set_cons_succ]))
    | (refine Plan.no ?_ ?_; (· rfl); (try simp only [Act.put, List.setIfInBounds_toArray, List.set_cons_zero, List.set_cons_succ])))
  refine Plan.done ?_
  intro u1 T
  (try dsimp only at T)
  obtain ⟨hm_0, hn_0, hB⟩ := T
  have hsz := hB.size
  have hlm := klt hm_0
  have hln := klt hn_0
  obtain ⟨hnm0, hnm1, hkm1, hnm2, hkm2⟩ := ap0 hlm
  obtain ⟨hnn0, hnn1, hkn1, hnn2, hkn2⟩ := ap0 hln
  obtain ⟨G, hG⟩ : ∃ G : Nat, 65536 = G := ⟨_, rfl⟩
  have HG := Lib.hid hG
  clear hG
  cases E
  · go_wp2_with fail
    go_loopw [36] (fun s36 wr => ∃ k : Nat, k ≤ G ∧ s36 = .int .i64 k ∧ Hid (∀ j : Nat, j < k → sameI (M j) (N j) = true) ∧ Below w.heap.size w wr) (fun i _ => G - (intOf i).toNat)
    case atStart => exact ⟨0, Nat.zero_le _, rfl, Lib.hid (fun j h => absurd h (by omega)), hB⟩
    case round =>
      obtain ⟨k, hkG, rfl, HK, hBr⟩ := hrel
      have HKG := Lib.hid hkG
      clear hkG
      clear hB hsz hlm hln hm_0 hn_0
      by_cases hlt : k < 65536
      · have hd : decide ((k : Int) < 65536) = true := decide_eq_true (by omega)
        have hw1 : IntKind.i64.wrap ((k : Int) + 1) = (k : Int) + 1 := IntWalk.i64_in _ (by omega)
        have hin : (0 : Int) ≤ (k : Int) ∧ (k : Int) < 65536 := by omega
        have hPr := HP.out.below hBr
        have hQr := HQ.out.below hBr
        have hB := hBr
        have hsz := hBr.size
        have hm_0 := hPr.c0
        have hn_0 := hQr.c0
        have x0 := hPr.at0 k hlt
        have x1 := hPr.at1 k hlt
        have y0 := hQr.at0 k hlt
        have y1 := hQr.at1 k hlt
        have hlb := hPr.lt
        have hlbb := hQr.lt
        have hlm := klt hPr.c0
        have hln := klt hn_0
        have HC := Lib.hid (fun W => taints_c (M (k : Int)).1 (M (k : Int)).2 (N (k : Int)).1 (N (k : Int)).2 W)
        have HKK := Lib.hid (show sameI ((M (k : Int)).1, (M (k : Int)).2) ((N (k : Int)).1, (N (k : Int)).2) = true → ∀ j : Nat, j < k + 1 → sameI (M j) (N j) = true from fun h j hj => by
          by_cases e : j = k
          · subst e; exact h
          · exact HK.out j (by omega))
        have HKN := Lib.hid (show sameI ((M (k : Int)).1, (M (k : Int)).2) ((N (k : Int)).1, (N (k : Int)).2) = false → R = false from fun h => by
          rw [← HR.out]
          cases e : sameM M N
          · rfl
          · have := (sameM_iff M N).1 e k hlt
            have h2 : sameI (M (k : Int)) (N (k : Int)) = false := h
            rw [h2] at this
            cases this)
        generalize sameI ((M (k : Int)).1, (M (k : Int)).2) ((N (k : Int)).1, (N (k : Int)).2) = C at *
        generalize (M (k : Int)).1 = m0 at *
        generalize (M (k : Int)).2 = m1 at *
        generalize (N (k : Int)).1 = n0 at *
        generalize (N (k : Int)).2 = n1 at *
        clear hPr hQr
        go_wp2_with fail
        go_region
        go_wp2_with fail
        refine wp_region_plan (fun w' => w'.cell? ⟨wr.heap.size, 0, none⟩ = some (.int .u8 m0) ∧ w'.cell? ⟨wr.heap.size, 1, none⟩ = some (.int .u8 m1) ∧ w'.cell? ⟨nbb, k * 2, none⟩ = some (.int .u8 n0) ∧ w'.cell? ⟨nbb, k * 2 + 1, none⟩ = some (.int .u8 n1) ∧ w'.cell? ⟨nb, 0, none⟩ = some (.pointer (some ⟨nbb, 0, none⟩)) ∧ Below w.heap.size w w') (by kernel_rfl) (by kernel_rfl) (by kernel_rfl) ?_ ?_
        · (try dsimp only)
          refine ⟨?_, ?_, ?_, ?_, ?_, ?_⟩ <;> first | (go_simp; done) | (simp [*]; done) | go_grown
        repeat (first
          | (refine Plan.val (v := ?_) ?_ ?_ ?_; rotate_left; (· rfl); (· (intro W hSw; (try dsimp only at hSw); go_simp; all_goals (first | (with_reducible rfl) | (constructor <;> (with_reducible rfl)) | (rw [if_neg (by omega)]; done) | (rw [if_neg (by omega)]; with_reducible rfl)))); (try simp only [Act.put, List.setIfInBounds_toArray, List.set_cons_zero, List.set_cons_succ]))
          | (refine Plan.no ?_ ?_; (· rfl); (try simp only [Act.put, List.setIfInBounds_toArray, List.set_cons_zero, List.set_cons_succ]))
          | (refine Plan.call (v := ?_) (f := ?_) (args := ?_) ?_ ?_ ?_ ?_; rotate_left 3; (· rfl); (· (intro W hSw; (try dsimp only at hSw); go_simp; all_goals (first | (with_reducible rfl) | (constructor <;> (with_reducible rfl)) | (rw [if_neg (by omega)]; done) | (rw [if_neg (by omega)]; with_reducible rfl)))); (· (intro W hSw; (try dsimp only at hSw); first | (go_at_call 53; ((with_reducible refine (HC.out _).mono ?_); rintro _ wz ⟨rfl, hb⟩; (refine ⟨?_, ?_⟩; (· with_reducible rfl); exact ⟨kc hb hSw.1, kc hb hSw.2.1, kc hb hSw.2.2.1, kc hb hSw.2.2.2.1, kc hb hSw.2.2.2.2.1, kb hSw.2.2.2.2.2 hb⟩))))); (try simp only [Act.put, List.setIfInBounds_toArray, List.set_cons_zero, List.set_cons_succ])))
        refine Plan.done ?_
        intro u3 T
        (try dsimp only at T)
        clear hm_0 hn_0 hB hsz hlm hln hnm0 hnm1 hkm1 hnm2 hkm2 hnn0 hnn1 hkn1 hnn2 hkn2
        obtain ⟨hx_0, hx_1, hy_0, hy_1, hn_0, hB⟩ := T
        have hsz := hB.size
        have hlx := klt hx_0
        have hly := klt hy_0
        have hln := klt hn_0
        obtain ⟨hnx0, hnx1, hkx1, hnx2, hkx2⟩ := ap0 hlx
        obtain ⟨hny0, hny1, hky1, hny2, hky2⟩ := ap0 hly
        obtain ⟨hnn0, hnn1, hkn1, hnn2, hkn2⟩ := ap0 hln
        clear hd hin
        cases C
        · have HF := Lib.hid (show R = false from HKN.out rfl)
          go_wp2
          go_ret
          exact ⟨ret_bool HF.out.symm, hB⟩
        · have HF := Lib.hid (HKK.out rfl)
          go_wp2
          go_roundw
          case rel => exact ⟨k + 1, by have := HG.out; omega, by go_num, HF, hB⟩
          case measure => have := HG.out; simp [intOf] <;> omega
      · have hd : decide ((k : Int) < 65536) = false := decide_eq_false (by omega)
        have HF := Lib.hid (show R = true from by
          rw [← HR.out]
          exact (sameM_iff M N).2 fun j hj => HK.out j (by have := HG.out; have := HKG.out; omega))
        go_wp2
        go_ret
        exact ⟨ret_bool HF.out.symm, hBr⟩
  · have HF := Lib.hid (show R = true from by rw [← HR.out]; exact HES.out rfl)
    go_wp2
    go_ret
    exact ⟨ret_bool HF.out.symm, hB⟩
end Go.Proofs.YtcnejgilmciljaaDoor
