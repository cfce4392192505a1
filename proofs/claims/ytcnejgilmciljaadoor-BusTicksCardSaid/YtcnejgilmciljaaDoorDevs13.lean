/-
  The program's bus: Clone.
  The program's bus: New.
  The program's bus: Low.
  The program's bus: its table of devices.
-/
import Derived.Test.YtcnejgilmciljaaDoorGet13
import Derived.Test.YtcnejgilmciljaaDoorPlanR
import Derived.Test.YtcnejgilmciljaaDoorAfterp10
import Derived.Test.YtcnejgilmciljaaDoorBits10
import Derived.Test.YtcnejgilmciljaaDoorBusK13
set_option linter.unusedSimpArgs false
set_option linter.unusedVariables false
namespace Go.Proofs.YtcnejgilmciljaaDoor
open Go.RowKit Go.PlainAid

/-- Calls that answer parts of their own: memory, ports, a wheel. -/
def isP (v : Value) : Prop := ∃ p, v = .pointer p
def MemP (M : Int → Int × Int) (x : Gt) (w : World) : Prop := ∃ mb mbb, x.v = .pointer (some ⟨mb, 0, none⟩) ∧ Pm mb mbb w M ∧ (x.lo ≤ mb ∧ mb < x.hi) ∧ x.lo ≤ mbb ∧ mbb < x.hi
def PrtP (S : Po) (x : Gt) (w : World) : Prop := ∃ pb F G, x.v = .pointer (some ⟨pb, 0, none⟩) ∧ PO pb S F G w ∧ ∀ k, G k → x.lo ≤ k ∧ k < x.hi
def WhlP (W : Wh) (x : Gt) (w : World) : Prop := ∃ wb, x.v = .pointer (some ⟨wb, 0, none⟩) ∧ Pw wb W w ∧ x.lo ≤ wb ∧ wb < x.hi
def gMem (M : Int → Int × Int) : KdR := .any (.pointer none) isP (MemP M)
def gPrt (S : Po) : KdR := .any (.pointer none) isP (PrtP S)
def gWhl (W : Wh) : KdR := .any (.pointer none) isP (WhlP W)
theorem gMem_fine (M : Int → Int × Int) : (gMem M).Fine := ⟨⟨_, rfl⟩, fun x W w1 h hb => by obtain ⟨mb, mbb, e, h, hl⟩ := h; exact ⟨mb, mbb, e, h.below hb, hl⟩, fun x w h => by obtain ⟨mb, mbb, e, _⟩ := h; exact ⟨_, e⟩⟩
theorem gPrt_fine (S : Po) : (gPrt S).Fine := ⟨⟨_, rfl⟩, fun x W w1 h hb => by obtain ⟨pb, F, G, e, h, hl⟩ := h; exact ⟨pb, F, G, e, (PO.frm _ _).below h hb, hl⟩, fun x w h => by obtain ⟨pb, F, G, e, _⟩ := h; exact ⟨_, e⟩⟩
theorem gWhl_fine (W : Wh) : (gWhl W).Fine := ⟨⟨_, rfl⟩, fun x V w1 h hb => by obtain ⟨wb, e, h, hl⟩ := h; exact ⟨wb, e, h.below hb, hl⟩, fun x w h => by obtain ⟨wb, e, _⟩ := h; exact ⟨_, e⟩⟩
def oneAgg (l : List Value) : Value := .agg #[l.headD undef]
set_option maxRecDepth 100000 in
set_option maxHeartbeats 8000000 in
theorem bclone_c {bb mb mbb pb wb : Nat} {B : Bs} {F G : Nat → Prop} {w : World} (h : Pv bb mb mbb pb wb B F G w) (hS : Fit B.S) :
    Calls Tryd.prog 17 #[.pointer (some ⟨bb, 0, none⟩)] w (NewT (fun b => BO b B) (fun v => v) w) := by
  have HM := Lib.hid (fun W (hW : Below w.heap.size w W) => bmemory_c (h.below hW))
  have HP := Lib.hid (fun W (hW : Below w.heap.size w W) => bports_c (h.below hW) hS)
  have HW := Lib.hid (fun W (hW : Below w.heap.size w W) => bwheel_c (h.below hW))
  unfold NewT at HP
  obtain ⟨t0, t1, t2, t3, t4, t5⟩ := h.t.cells
  have c9 := h.c9
  obtain ⟨BM, BT, BS, BW, bn⟩ := B
  dsimp only at *
  obtain ⟨l, c, r, a, s, g⟩ := BT
  dsimp only at *
  clear h
  go_enter Tryd.func17, Tryd.ntmps17
  go_wp2_with fail
  refine wp_region_planD 9 15 (fun W => (W.cell? ⟨bb, 1, none⟩ = some (.int .i64 l) ∧ W.cell? ⟨bb, 2, none⟩ = some (.int .i64 c) ∧ W.cell? ⟨bb, 3, none⟩ = some (.bool r) ∧ W.cell? ⟨bb, 4, none⟩ = some (.bool a) ∧ W.cell? ⟨bb, 5, none⟩ = some (.bool s) ∧ W.cell? ⟨bb, 6, none⟩ = some (.bool g) ∧ W.cell? ⟨bb, 9, none⟩ = some (.int .i64 bn)) ∧ Below w.heap.size w W)
    [.val (.pointer (some ⟨bb, 0, none⟩)), gMem BM, .fn [1] oneAgg, .val (.pointer (some ⟨bb, 0, none⟩)), .val (.pointer (some ⟨bb, 0, none⟩)), .val (.pointer (some ⟨bb, 1, none⟩)), .val (.agg #[.int .i64 l, .int .i64 c, .bool r, .bool a, .bool s, .bool g]), .val (.pointer (some ⟨bb, 0, none⟩)), gPrt BS, .val (.pointer (some ⟨bb, 0, none⟩)), gWhl BW, .val (.pointer (some ⟨bb, 0, none⟩)), .val (.pointer (some ⟨bb, 0, none⟩)), .val (.pointer (some ⟨bb, 9, none⟩)), .val (.int .i64 bn)]
    (by kernel_rfl) (by kernel_rfl) (by kernel_rfl) (by kernel_rfl) (by kernel_rfl) (fun W w1 h hb => ⟨⟨kc hb h.1.1, kc hb h.1.2.1, kc hb h.1.2.2.1, kc hb h.1.2.2.2.1, kc hb h.1.2.2.2.2.1, kc hb h.1.2.2.2.2.2.1, kc hb h.1.2.2.2.2.2.2⟩, h.2.trans (hb.mono h.2.size)⟩) ?_ ?_ ?_
  · intro k hk
    simp only [List.mem_cons, List.not_mem_nil, or_false] at hk
    rcases hk with rfl | rfl | rfl | rfl | rfl | rfl | rfl | rfl | rfl | rfl | rfl | rfl | rfl | rfl | rfl <;> first | exact trivial | exact gMem_fine _ | exact gPrt_fine _ | exact gWhl_fine _
  · exact ⟨⟨t0, t1, t2, t3, t4, t5, c9⟩, Below.drew (Below.refl _ _)⟩
  (try simp only [List.append_eq, List.cons_append, List.nil_append, List.toList_toArray, List.take_succ_cons, List.take_zero, List.drop_succ_cons, List.drop_zero])
  (iterate 1 (refine PlanR.val ?_ ?_ ?_; (· rfl); (· (intro W hSw; obtain ⟨⟨s0, s1, s2, s3, s4, s5, s6⟩, -⟩ := hSw; go_simp; all_goals (first | (with_reducible rfl) | (constructor <;> (with_reducible rfl))))); intro _ _; (try simp only [Act.put, List.setIfInBounds_toArray, List.set_cons_zero, List.set_cons_succ])))
  refine PlanR.any ?_ ?_ ?_
  · rfl
  · intro W hSw _
    (try dsimp only at hSw)
    go_simp
    refine ⟨rfl, (HM.out W hSw.2).mono ?_⟩
    rintro _ u ⟨nb, nbb, rfl, hp, h1, h2, hb⟩
    exact ⟨_, rfl, hb, nb, nbb, rfl, hp, ⟨h1, klt hp.c0⟩, h2, hp.lt⟩
  rintro ⟨_, lom, him⟩ ⟨mp, rfl⟩
  (try simp only [Act.put, List.setIfInBounds_toArray, List.set_cons_zero, List.set_cons_succ])
  refine PlanR.fn (v := .agg #[.pointer mp]) ?_ ?_ ?_ ?_
  · rfl
  · rfl
  · intro W hSw; go_simp; all_goals (first | done | (with_reducible rfl))
  intro _ _
  (try simp only [Act.put, List.setIfInBounds_toArray, List.set_cons_zero, List.set_cons_succ])
  (iterate 5 (refine PlanR.val ?_ ?_ ?_; (· rfl); (· (intro W hSw; obtain ⟨⟨s0, s1, s2, s3, s4, s5, s6⟩, -⟩ := hSw; go_simp; all_goals (first | (with_reducible rfl) | (constructor <;> (with_reducible rfl))))); intro _ _; (try simp only [Act.put, List.setIfInBounds_toArray, List.set_cons_zero, List.set_cons_succ])))
  refine PlanR.any ?_ ?_ ?_
  · rfl
  · intro W hSw _
    (try dsimp only at hSw)
    go_simp
    refine ⟨rfl, (HP.out W hSw.2).mono ?_⟩
    rintro _ u ⟨nb, F', G', rfl, hp, hg, hl, hb⟩
    exact ⟨_, rfl, hb, nb, F', G', rfl, hp, fun k hk => ⟨hg k hk, (PO.frm _ _).lt hp k hk⟩⟩
  rintro ⟨_, lop, hip⟩ ⟨pp, rfl⟩
  (try simp only [Act.put, List.setIfInBounds_toArray, List.set_cons_zero, List.set_cons_succ])
  (iterate 1 (refine PlanR.val ?_ ?_ ?_; (· rfl); (· (intro W hSw; obtain ⟨⟨s0, s1, s2, s3, s4, s5, s6⟩, -⟩ := hSw; go_simp; all_goals (first | (with_reducible rfl) | (constructor <;> (with_reducible rfl))))); intro _ _; (try simp only [Act.put, List.setIfInBounds_toArray, List.set_cons_zero, List.set_cons_succ])))
  refine PlanR.any ?_ ?_ ?_
  · rfl
  · intro W hSw _
    (try dsimp only at hSw)
    go_simp
    refine ⟨rfl, (HW.out W hSw.2).mono ?_⟩
    rintro _ u ⟨nb, rfl, hp, hl, hb⟩
    exact ⟨_, rfl, hb, nb, rfl, hp, hl, hp.lt⟩
  rintro ⟨_, low, hiw⟩ ⟨wp, rfl⟩
  (try simp only [Act.put, List.setIfInBounds_toArray, List.set_cons_zero, List.set_cons_succ])
  (iterate 4 (refine PlanR.val ?_ ?_ ?_; (· rfl); (· (intro W hSw; obtain ⟨⟨s0, s1, s2, s3, s4, s5, s6⟩, -⟩ := hSw; go_simp; all_goals (first | (with_reducible rfl) | (constructor <;> (with_reducible rfl))))); intro _ _; (try simp only [Act.put, List.setIfInBounds_toArray, List.set_cons_zero, List.set_cons_succ])))
  refine PlanR.done ?_
  intro u G
  have hB : Below w.heap.size w u := G.s.2
  have em := G.each 1 (by decide) rfl
  have ep := G.each 8 (by decide) rfl
  have ew := G.each 10 (by decide) rfl
  have a1 := G.apart 1 8 (by decide) (by decide) rfl rfl (by decide)
  have a2 := G.apart 1 10 (by decide) (by decide) rfl rfl (by decide)
  have a3 := G.apart 8 10 (by decide) (by decide) rfl rfl (by decide)
  clear G
  simp (config := { decide := true }) only [if_true, if_false, ite_true, ite_false, Nat.reduceEqDiff, reduceIte] at em ep ew a1 a2 a3
  obtain ⟨⟨mb', mbb', e1, hpm, m1, m2⟩, m3, m4, m5⟩ := em
  obtain ⟨⟨pb', F', G', e2, hpo, hg⟩, p3, p4, p5⟩ := ep
  obtain ⟨⟨wb', e3, hpw, w1, w2⟩, w3, w4, w5⟩ := ew
  injection e1 with e1
  injection e2 with e2
  injection e3 with e3
  subst e1; subst e2; subst e3
  (try dsimp only at *)
  have HE := Lib.hid (show ∀ Z, Z = u.alloc (Obj.cells #[.pointer (some ⟨mb', 0, none⟩), .int .i64 l, .int .i64 c, .bool r, .bool a, .bool s, .bool g, .pointer (some ⟨pb', 0, none⟩), .pointer (some ⟨wb', 0, none⟩), .int .i64 bn] 72) → NewT (fun b => BO b ⟨BM, ⟨l, c, r, a, s, g⟩, BS, BW, bn⟩) (fun v => v) w (.returned (.pointer (some ⟨u.heap.size, 0, none⟩))) Z from fun Z hZ => by
    have hbZ : Below u.heap.size u Z := by rw [hZ]; go_grown
    have hs := hB.size
    have hpo' := (PO.frm _ _).below hpo hbZ
    refine ⟨u.heap.size, _, _, rfl, ⟨mb', mbb', pb', wb', F', G', ⟨by rw [hZ]; go_simp; first | done | rfl, ?_, by rw [hZ]; go_simp; first | done | rfl, by rw [hZ]; go_simp; first | done | rfl, by rw [hZ]; go_simp; first | done | rfl, by rw [hZ]; go_simp, hpm.below hbZ, hpo', hpw.below hbZ, ?_⟩, rfl, rfl⟩, ?_, hs, Below.trans hB (hbZ.mono hs)⟩
    · refine Tw.mk6 (by rw [hZ]; go_simp; first | done | rfl) (by rw [hZ]; go_simp; first | done | rfl) (by rw [hZ]; go_simp; first | done | rfl) (by rw [hZ]; go_simp; first | done | rfl) (by rw [hZ]; go_simp; first | done | rfl) (by rw [hZ]; go_simp; first | done | rfl) (by rw [hZ]; go_simp) (by rw [hZ]; go_simp) (by rw [hZ]; go_simp) (by rw [hZ]; go_simp) (by rw [hZ]; go_simp) (by rw [hZ]; go_simp)
    · exact ⟨by omega, by omega, by omega, fun e => by have := hg _ e; omega, by omega, fun e => by have := hg _ e; omega, by omega, fun e => by have := hg _ e; omega, fun e => by have := hg _ e; omega⟩
    · rintro k (rfl | rfl | rfl | rfl | hk)
      · exact hs
      · omega
      · omega
      · omega
      · have := hg _ hk; omega)
  clear hpm hpo hpw hg a1 a2 a3 m1 m2 m3 m4 m5 p3 p4 p5 w1 w2 w3 w4 w5 HM HP HW
  go_wp2
  go_ret
  exact HE.out _ rfl
end Go.Proofs.YtcnejgilmciljaaDoor
set_option linter.unusedSimpArgs false
set_option linter.unusedVariables false
namespace Go.Proofs.YtcnejgilmciljaaDoor
open Go.RowKit Go.PlainAid

set_option maxRecDepth 100000 in
theorem bnew_nil (p q r : Option Addr) (T : Tm) (w : World) (h : p = none ∨ q = none ∨ r = none) : Calls Tryd.prog 6 #[.pointer p, tmVal T, .pointer q, .pointer r] w fun e w' => e = .returned (.tuple #[.pointer none, .int .i64 2]) ∧ Below w.heap.size w w' := by
  unfold tmVal
  have h2 : p = none ∨ (∃ a, p = some a) ∧ q = none ∨ (∃ a, p = some a) ∧ (∃ a, q = some a) ∧ r = none := by
    cases p with
    | none => exact .inl rfl
    | some a => cases q with
      | none => exact .inr (.inl ⟨⟨a, rfl⟩, rfl⟩)
      | some b => refine .inr (.inr ⟨⟨a, rfl⟩, ⟨b, rfl⟩, ?_⟩); simpa using h
  clear h
  rcases h2 with rfl | ⟨⟨a, rfl⟩, rfl⟩ | ⟨⟨a, rfl⟩, ⟨b, rfl⟩, rfl⟩
  all_goals
    go_enter Tryd.func6, Tryd.ntmps6
    go_wp2
    go_ret2
    exact ⟨rfl, by go_grown⟩
set_option maxRecDepth 100000 in
set_option maxHeartbeats 4000000 in
theorem bnew_bad (p q r : Addr) (T : Tm) (w : World) (hT : ¬ T.May) : Calls Tryd.prog 6 #[.pointer (some p), tmVal T, .pointer (some q), .pointer (some r)] w fun e w' => e = .returned (.tuple #[.pointer none, .int .i64 10]) ∧ Below w.heap.size w w' := by
  have HA := Lib.hid (fun W => afterp_bad T 0 (fun h => hT h.1) W)
  clear hT
  unfold tmVal
  obtain ⟨l, c, r', a, s, g⟩ := T
  dsimp only at *
  go_enter Tryd.func6, Tryd.ntmps6
  go_wp2_with fail
  ((with_reducible refine (HA.out _).mono ?_); rintro _ u ⟨rfl, hb⟩)
  have hz := hb.size
  (try simp only [World.size_alloc, World.size_setCell, World.size_drew] at hz)
  have hB' : Below w.heap.size w u := by
      refine kb ?_ hb
      go_grown
  clear hb hz
  have hB := hB'; clear hB'
  have hsz := hB.size
  go_wp2
  go_ret2
  exact ⟨rfl, by go_grown⟩
set_option maxRecDepth 100000 in
set_option maxHeartbeats 4000000 in
theorem bnew_c (mb mbb pb wb : Nat) (M : Int → Int × Int) (T : Tm) (S : Po) (W0 : Wh) (F G : Nat → Prop) (w : World) (hM : Pm mb mbb w M) (hT : T.May) (hS : Fit S) (hP : PO pb S F G w) (hW : W0.May) (hw : Pw wb W0 w) :
    Calls Tryd.prog 6 #[.pointer (some ⟨mb, 0, none⟩), tmVal T, .pointer (some ⟨pb, 0, none⟩), .pointer (some ⟨wb, 0, none⟩)] w (NewT (fun b => BO b ⟨M, T, S, W0, 0⟩) okV w) := by
  have HA := Lib.hid (fun W => afterp_c T 0 hT (Int.le_refl _) (by decide) W)
  rw [afterT_zero] at HA
  have HC := Lib.hid (fun bb W (h : Pv bb mb mbb pb wb ⟨M, T, S, W0, 0⟩ F G W) => bclone_c h hS)
  unfold NewT at HC
  have HP := Lib.hid (And.intro hM (And.intro hP hw))
  clear hM hT hS hP hW hw
  unfold tmVal
  obtain ⟨l, c, r, a, s, g⟩ := T
  dsimp only at *
  go_enter Tryd.func6, Tryd.ntmps6
  go_wp2_with fail
  ((with_reducible refine (HA.out _).mono ?_); rintro _ u ⟨rfl, hb⟩)
  have T : CC u w.heap.size 0 1 (.int .i64 l) (.int .i64 c) ∧ CC u w.heap.size 2 3 (.bool r) (.bool a) ∧ CC u w.heap.size 4 5 (.bool s) (.bool g) := by
      refine ⟨⟨?_, ?_⟩, ⟨?_, ?_⟩, ⟨?_, ?_⟩⟩ <;> refine kc hb ?_ <;> (go_simp; first | done | rfl)
  have hz := hb.size
  (try simp only [World.size_alloc, World.size_setCell, World.size_drew] at hz)
  have L : w.heap.size < u.heap.size := by omega
  have hB' : Below w.heap.size w u := by
      refine kb ?_ hb
      go_grown
  clear hb hz
  obtain ⟨⟨ht_0, ht_1⟩, ⟨ht_2, ht_3⟩, ⟨ht_4, ht_5⟩⟩ := T
  have hlt := L; clear L
  obtain ⟨hnt0, hnt1, hkt1, hnt2, hkt2⟩ := ap0 hlt
  have hB := hB'; clear hB'
  have hsz := hB.size
  go_wp2_with fail
  obtain ⟨W1, hW1⟩ : ∃ W, W = (u.alloc (Obj.cells #[.int .i64 l, .int .i64 c, .bool r, .bool a, .bool s, .bool g] 32)).alloc (Obj.cells #[.pointer (some ⟨mb, 0, none⟩), .int .i64 l, .int .i64 c, .bool r, .bool a, .bool s, .bool g, .pointer (some ⟨pb, 0, none⟩), .pointer (some ⟨wb, 0, none⟩), .int .i64 0] 72) := ⟨_, rfl⟩
  have hbW : Below w.heap.size w W1 := by rw [hW1]; go_grown
  have hPv : Pv (u.heap.size + 1) mb mbb pb wb ⟨M, ⟨l, c, r, a, s, g⟩, S, W0, 0⟩ F G W1 := by
    refine ⟨by rw [hW1]; go_simp; first | done | rfl, ?_, by rw [hW1]; go_simp; first | done | rfl, by rw [hW1]; go_simp; first | done | rfl, by rw [hW1]; go_simp; first | done | rfl, HP.out.1.below hbW, (PO.frm _ _).below HP.out.2.1 hbW, HP.out.2.2.below hbW⟩
    refine Tw.mk6 (by rw [hW1]; go_simp; first | done | rfl) (by rw [hW1]; go_simp; first | done | rfl) (by rw [hW1]; go_simp; first | done | rfl) (by rw [hW1]; go_simp; first | done | rfl) (by rw [hW1]; go_simp; first | done | rfl) (by rw [hW1]; go_simp; first | done | rfl) (by rw [hW1]; go_simp) (by rw [hW1]; go_simp) (by rw [hW1]; go_simp) (by rw [hW1]; go_simp) (by rw [hW1]; go_simp) (by rw [hW1]; go_simp)
  rw [← hW1]
  have HB := Lib.hid hbW
  clear hW1 hbW HA
  refine (HC.out _ W1 hPv).mono ?_
  rintro _ v ⟨nb, F', G', rfl, ho, hg, hl, hb⟩
  have HE := Lib.hid (And.intro ho (And.intro (fun k hk => Nat.le_trans HB.out.size (hg k hk)) (And.intro (Nat.le_trans HB.out.size hl) (Below.trans HB.out (hb.mono HB.out.size)))))
  clear ho hg hl hb hPv HC
  go_wp2
  go_ret2
  exact ⟨_, _, _, rfl, HE.out⟩
end Go.Proofs.YtcnejgilmciljaaDoor
set_option linter.unusedSimpArgs false
set_option linter.unusedVariables false
namespace Go.Proofs.YtcnejgilmciljaaDoor
open Go.RowKit Go.PlainAid

theorem sameW_refl (R : Wh) : sameW R R = true := by unfold sameW; simp
set_option maxRecDepth 100000 in
set_option maxHeartbeats 8000000 in
theorem blow_c {bb mb mbb pb wb cb nb nbb qb xb : Nat} {B C : Bs} {F G F2 G2 : Nat → Prop} {w : World} (hQ : LowQ B C) (hB : B.May) (hC : C.May) (h : Pv bb mb mbb pb wb B F G w) (h' : Pv cb nb nbb qb xb C F2 G2 w) :
    Calls Tryd.prog 18 #[.pointer (some ⟨bb, 0, none⟩), .pointer (some ⟨cb, 0, none⟩)] w fun e w' => e = .returned (.bool true) ∧ Below w.heap.size w w' := by
  have HW := Lib.hid (fun W (hW : Below w.heap.size w W) => wsame_c wb xb B.W C.W hB.w hC.w W (h.below hW).h (h'.below hW).h)
  have HP := Lib.hid (fun W (hW : Below w.heap.size w W) => lowp_c pb qb B.S C.S hB.s hQ.s F G F2 G2 W (h.below hW).p (h'.below hW).p)
  have HM := Lib.hid (fun W (hW : Below w.heap.size w W) => samep_c B.M C.M mb mbb nb nbb W (h.below hW).m (h'.below hW).m)
  rw [← hQ.w, sameW_refl] at HW
  rw [hQ.m] at HM
  obtain ⟨t0, t1, t2, t3, t4, t5⟩ := h.t.cells
  obtain ⟨t0', t1', t2', t3', t4', t5'⟩ := h'.t.cells
  rw [← hQ.t] at t0' t1' t2' t3' t4' t5'
  have c0 := h.c0
  have c7 := h.c7
  have c8 := h.c8
  have c9 := h.c9
  have d0 := h'.c0
  have d7 := h'.c7
  have d8 := h'.c8
  have d9 := h'.c9
  rw [← hQ.n] at d9
  clear hQ hB hC h h'
  obtain ⟨BM, BT, BS, BW, bn⟩ := B
  dsimp only at *
  obtain ⟨l, c, r, a, s, g⟩ := BT
  dsimp only at *
  have hp_0 := c0
  have hp_1 := t0
  have hp_2 := t1
  have hp_3 := t2
  have hp_4 := t3
  have hp_5 := t4
  have hp_6 := t5
  have hp_7 := c7
  have hp_8 := c8
  have hp_9 := c9
  have hq_0 := d0
  have hq_1 := t0'
  have hq_2 := t1'
  have hq_3 := t2'
  have hq_4 := t3'
  have hq_5 := t4'
  have hq_6 := t5'
  have hq_7 := d7
  have hq_8 := d8
  have hq_9 := d9
  have hB := Below.refl w.heap.size w
  go_enter Tryd.func18, Tryd.ntmps18
  go_wp2_with fail
  refine wp_region_plan (fun w' => w'.cell? ⟨bb, 0, none⟩ = some (.pointer (some ⟨mb, 0, none⟩)) ∧ w'.cell? ⟨bb, 1, none⟩ = some (.int .i64 l) ∧ w'.cell? ⟨bb, 2, none⟩ = some (.int .i64 c) ∧ w'.cell? ⟨bb, 3, none⟩ = some (.bool r) ∧ w'.cell? ⟨bb, 4, none⟩ = some (.bool a) ∧ w'.cell? ⟨bb, 5, none⟩ = some (.bool s) ∧ w'.cell? ⟨bb, 6, none⟩ = some (.bool g) ∧ w'.cell? ⟨bb, 7, none⟩ = some (.pointer (some ⟨pb, 0, none⟩)) ∧ w'.cell? ⟨bb, 8, none⟩ = some (.pointer (some ⟨wb, 0, none⟩)) ∧ w'.cell? ⟨bb, 9, none⟩ = some (.int .i64 bn) ∧ w'.cell? ⟨cb, 0, none⟩ = some (.pointer (some ⟨nb, 0, none⟩)) ∧ w'.cell? ⟨cb, 1, none⟩ = some (.int .i64 l) ∧ w'.cell? ⟨cb, 2, none⟩ = some (.int .i64 c) ∧ w'.cell? ⟨cb, 3, none⟩ = some (.bool r) ∧ w'.cell? ⟨cb, 4, none⟩ = some (.bool a) ∧ w'.cell? ⟨cb, 5, none⟩ = some (.bool s) ∧ w'.cell? ⟨cb, 6, none⟩ = some (.bool g) ∧ w'.cell? ⟨cb, 7, none⟩ = some (.pointer (some ⟨qb, 0, none⟩)) ∧ w'.cell? ⟨cb, 8, none⟩ = some (.pointer (some ⟨xb, 0, none⟩)) ∧ w'.cell? ⟨cb, 9, none⟩ = some (.int .i64 bn) ∧ Below w.heap.size w w') (by kernel_rfl) (by kernel_rfl) (by kernel_rfl) ?_ ?_
  · (try dsimp only)
    refine ⟨?_, ?_, ?_, ?_, ?_, ?_, ?_, ?_, ?_, ?_, ?_, ?_, ?_, ?_, ?_, ?_, ?_, ?_, ?_, ?_, ?_⟩ <;> first | (go_simp; done) | (simp [*]; done) | go_grown
  repeat (first
    | (refine Plan.val (v := ?_) ?_ ?_ ?_; rotate_left; (· rfl); (· (intro W hSw; (try dsimp only at hSw); go_simp; all_goals (first | (with_reducible rfl) | (constructor <;> (with_reducible rfl)) | (rw [if_neg (by omega)]; done) | (rw [if_neg (by omega)]; with_reducible rfl)))); (try simp only [Act.put, List.setIfInBounds_toArray, List.set_cons_zero, List.set_cons_succ]))
    | (refine Plan.no ?_ ?_; (· rfl); (try simp only [Act.put, List.setIfInBounds_toArray, List.set_cons_zero, List.set_cons_succ]))
    | (refine Plan.call (v := ?_) (f := ?_) (args := ?_) ?_ ?_ ?_ ?_; rotate_left 3; (· rfl); (· (intro W hSw; (try dsimp only at hSw); go_simp; all_goals (first | (with_reducible rfl) | (constructor <;> (with_reducible rfl)) | (rw [if_neg (by omega)]; done) | (rw [if_neg (by omega)]; with_reducible rfl)))); (· (intro W hSw; (try dsimp only at hSw); first | (go_at_call 32; ((with_reducible refine (HW.out _ hSw.2.2.2.2.2.2.2.2.2.2.2.2.2.2.2.2.2.2.2.2).mono ?_); rintro _ wz ⟨rfl, hb⟩; (refine ⟨?_, ?_⟩; (· with_reducible rfl); exact ⟨kc hb hSw.1, kc hb hSw.2.1, kc hb hSw.2.2.1, kc hb hSw.2.2.2.1, kc hb hSw.2.2.2.2.1, kc hb hSw.2.2.2.2.2.1, kc hb hSw.2.2.2.2.2.2.1, kc hb hSw.2.2.2.2.2.2.2.1, kc hb hSw.2.2.2.2.2.2.2.2.1, kc hb hSw.2.2.2.2.2.2.2.2.2.1, kc hb hSw.2.2.2.2.2.2.2.2.2.2.1, kc hb hSw.2.2.2.2.2.2.2.2.2.2.2.1, kc hb hSw.2.2.2.2.2.2.2.2.2.2.2.2.1, kc hb hSw.2.2.2.2.2.2.2.2.2.2.2.2.2.1, kc hb hSw.2.2.2.2.2.2.2.2.2.2.2.2.2.2.1, kc hb hSw.2.2.2.2.2.2.2.2.2.2.2.2.2.2.2.1, kc hb hSw.2.2.2.2.2.2.2.2.2.2.2.2.2.2.2.2.1, kc hb hSw.2.2.2.2.2.2.2.2.2.2.2.2.2.2.2.2.2.1, kc hb hSw.2.2.2.2.2.2.2.2.2.2.2.2.2.2.2.2.2.2.1, kc hb hSw.2.2.2.2.2.2.2.2.2.2.2.2.2.2.2.2.2.2.2.1, kb hSw.2.2.2.2.2.2.2.2.2.2.2.2.2.2.2.2.2.2.2.2 hb⟩))) | (go_at_call 33; ((with_reducible refine (HP.out _ hSw.2.2.2.2.2.2.2.2.2.2.2.2.2.2.2.2.2.2.2.2).mono ?_); rintro _ wz ⟨rfl, hb⟩; (refine ⟨?_, ?_⟩; (· with_reducible rfl); exact ⟨kc hb hSw.1, kc hb hSw.2.1, kc hb hSw.2.2.1, kc hb hSw.2.2.2.1, kc hb hSw.2.2.2.2.1, kc hb hSw.2.2.2.2.2.1, kc hb hSw.2.2.2.2.2.2.1, kc hb hSw.2.2.2.2.2.2.2.1, kc hb hSw.2.2.2.2.2.2.2.2.1, kc hb hSw.2.2.2.2.2.2.2.2.2.1, kc hb hSw.2.2.2.2.2.2.2.2.2.2.1, kc hb hSw.2.2.2.2.2.2.2.2.2.2.2.1, kc hb hSw.2.2.2.2.2.2.2.2.2.2.2.2.1, kc hb hSw.2.2.2.2.2.2.2.2.2.2.2.2.2.1, kc hb hSw.2.2.2.2.2.2.2.2.2.2.2.2.2.2.1, kc hb hSw.2.2.2.2.2.2.2.2.2.2.2.2.2.2.2.1, kc hb hSw.2.2.2.2.2.2.2.2.2.2.2.2.2.2.2.2.1, kc hb hSw.2.2.2.2.2.2.2.2.2.2.2.2.2.2.2.2.2.1, kc hb hSw.2.2.2.2.2.2.2.2.2.2.2.2.2.2.2.2.2.2.1, kc hb hSw.2.2.2.2.2.2.2.2.2.2.2.2.2.2.2.2.2.2.2.1, kb hSw.2.2.2.2.2.2.2.2.2.2.2.2.2.2.2.2.2.2.2.2 hb⟩))) | (go_at_call 34; ((with_reducible refine (HM.out _ hSw.2.2.2.2.2.2.2.2.2.2.2.2.2.2.2.2.2.2.2.2).mono ?_); rintro _ wz ⟨rfl, hb⟩; (refine ⟨?_, ?_⟩; (· with_reducible rfl); exact ⟨kc hb hSw.1, kc hb hSw.2.1, kc hb hSw.2.2.1, kc hb hSw.2.2.2.1, kc hb hSw.2.2.2.2.1, kc hb hSw.2.2.2.2.2.1, kc hb hSw.2.2.2.2.2.2.1, kc hb hSw.2.2.2.2.2.2.2.1, kc hb hSw.2.2.2.2.2.2.2.2.1, kc hb hSw.2.2.2.2.2.2.2.2.2.1, kc hb hSw.2.2.2.2.2.2.2.2.2.2.1, kc hb hSw.2.2.2.2.2.2.2.2.2.2.2.1, kc hb hSw.2.2.2.2.2.2.2.2.2.2.2.2.1, kc hb hSw.2.2.2.2.2.2.2.2.2.2.2.2.2.1, kc hb hSw.2.2.2.2.2.2.2.2.2.2.2.2.2.2.1, kc hb hSw.2.2.2.2.2.2.2.2.2.2.2.2.2.2.2.1, kc hb hSw.2.2.2.2.2.2.2.2.2.2.2.2.2.2.2.2.1, kc hb hSw.2.2.2.2.2.2.2.2.2.2.2.2.2.2.2.2.2.1, kc hb hSw.2.2.2.2.2.2.2.2.2.2.2.2.2.2.2.2.2.2.1, kc hb hSw.2.2.2.2.2.2.2.2.2.2.2.2.2.2.2.2.2.2.2.1, kb hSw.2.2.2.2.2.2.2.2.2.2.2.2.2.2.2.2.2.2.2.2 hb⟩))))); (try simp only [Act.put, List.setIfInBounds_toArray, List.set_cons_zero, List.set_cons_succ])))
  refine Plan.done ?_
  intro wz T
  (try dsimp only at T)
  have hBe := T.2.2.2.2.2.2.2.2.2.2.2.2.2.2.2.2.2.2.2.2
  go_wp2
  go_ret
  exact ⟨rfl, hBe⟩
end Go.Proofs.YtcnejgilmciljaaDoor
set_option linter.unusedSimpArgs false
set_option linter.unusedVariables false
namespace Go.Proofs.YtcnejgilmciljaaDoor
open Go.RowKit Go.PlainAid

theorem store_fn (P : Program) (f : Fn) (x y : Array Value) (a : Addr) (m : Mode) (W : World) : (store a (.func f x y) m).run P W = stored P W a (.func f x y) m := run_store P W a _ m rfl
def fnV (k : Nat) : Value := .func (.func k) #[] #[]
def devsV : Value := .agg #[.int .i64 32768, .int .i64 32771, fnV 57, fnV 58, .int .i64 32772, .int .i64 32776, fnV 59, fnV 60,
  .int .i64 32777, .int .i64 32779, fnV 61, fnV 62, .int .i64 32780, .int .i64 32783, fnV 63, fnV 64]
/-- A device. -/
def devV (f t : Int) (r w : Nat) : Value := .agg #[.int .i64 f, .int .i64 t, fnV r, fnV w]
theorem index_devs (W : World) :
    (Instr.index 100 devsV (.int .i64 0)).run Tryd.prog W = .ok (devV 32768 32771 57 58) W ∧
    (Instr.index 100 devsV (.int .i64 1)).run Tryd.prog W = .ok (devV 32772 32776 59 60) W ∧
    (Instr.index 100 devsV (.int .i64 2)).run Tryd.prog W = .ok (devV 32777 32779 61 62) W ∧
    (Instr.index 100 devsV (.int .i64 3)).run Tryd.prog W = .ok (devV 32780 32783 63 64) W := by
  refine ⟨?_, ?_, ?_, ?_⟩ <;> kernel_rfl
set_option maxRecDepth 100000 in
set_option maxHeartbeats 4000000 in
theorem devs_c (w : World) : Calls Tryd.prog 44 #[] w fun e w' => e = .returned devsV ∧ Below w.heap.size w w' := by
  have hst := store_fn Tryd.prog
  go_enter Tryd.func44, Tryd.ntmps44
  go_wp2
  refine bodyPost_ret (v := devsV) (by simp [results, Tryd.results44, go_sem]; first | done | rfl) rfl ⟨rfl, by go_grown⟩
end Go.Proofs.YtcnejgilmciljaaDoor
