/-
  The program's wheel: Way, Clone, Same.
  The program's bus: what it hands out.
  The program's bus: Clone.
-/
import Derived.Test.YtcnejgilmciljaaGreatDoorBusK13
import Derived.Test.YtcnejgilmciljaaGreatDoorRef11
import Derived.Test.YtcnejgilmciljaaGreatDoorClonep11
import Derived.Test.YtcnejgilmciljaaGreatDoorProgw10
import Derived.Test.YtcnejgilmciljaaGreatDoorPlanR
set_option linter.unusedSimpArgs false
set_option linter.unusedVariables false
namespace Go.Proofs.YtcnejgilmciljaaGreatDoor
open Go.RowKit Go.PlainAid

set_option maxRecDepth 100000 in
theorem wclone_nil (w : World) : Calls Tryz.prog 80 #[.pointer none] w fun e w' => e = .returned (.pointer none) ∧ Below w.heap.size w w' := by
  go_enter Tryz.func80, Tryz.ntmps80
  go_wp2
  go_ret
  exact ⟨rfl, by go_grown⟩
set_option maxRecDepth 100000 in
theorem wclone_c (wb : Nat) (R : Wh) (w : World) (h : Pw wb R w) : Calls Tryz.prog 80 #[.pointer (some ⟨wb, 0, none⟩)] w fun e w' => ∃ cb, e = .returned (.pointer (some ⟨cb, 0, none⟩)) ∧ Pw cb R w' ∧ w.heap.size ≤ cb ∧ Below w.heap.size w w' := by
  obtain ⟨c0, c1, c2, -⟩ := h
  have hlt := klt c0
  have hst := store_cplx Tryz.prog
  have H : ∀ cb w', w'.cell? ⟨cb, 0, none⟩ = some (cV R.x R.y) → w'.cell? ⟨cb, 1, none⟩ = some (cV (waysX R.q) (waysY R.q)) → w'.cell? ⟨cb, 2, none⟩ = some (.int .u8 R.b) → (∀ i, i < 3 → w'.frozen? ⟨cb, i, none⟩ = false) → Pw cb R w' := fun cb w' a b c d => ⟨a, b, c, d⟩
  have H := Lib.hid H
  unfold cV at *
  generalize zF R.x = X at *
  generalize zF R.y = Y at *
  generalize zF (waysX R.q) = A at *
  generalize zF (waysY R.q) = B at *
  go_enter Tryz.func80, Tryz.ntmps80
  go_wp2
  go_ret
  refine ⟨_, rfl, H.out _ _ (by go_simp; first | done | rfl) (by go_simp; first | done | rfl) (by go_simp; first | done | rfl) (fun i hi => by go_simp), by simp, by go_grown⟩
def sameW (R T : Wh) : Bool := decide (R.x = T.x) && decide (R.y = T.y) && decide (R.q = T.q) && decide (R.b = T.b)
theorem ways_inj {p q : Int} (hp : 0 ≤ p ∧ p ≤ 3) (hq : 0 ≤ q ∧ q ≤ 3) : (decide (waysX p = waysX q) && decide (waysY p = waysY q)) = decide (p = q) := by
  rcases way_cases hp with rfl | rfl | rfl | rfl <;> rcases way_cases hq with rfl | rfl | rfl | rfl <;> decide
theorem small_ways (q : Int) : (waysX q).natAbs < 2 ^ 53 ∧ (waysY q).natAbs < 2 ^ 53 := by
  rcases waysX_of q with h | h | h <;> rcases waysY_of q with h2 | h2 | h2 <;> rw [h, h2] <;> decide
set_option maxRecDepth 100000 in
set_option maxHeartbeats 1000000 in
theorem wsame_c (vb wb : Nat) (R T : Wh) (hR : R.May) (hT : T.May) (w : World) (h : Pw vb R w) (h' : Pw wb T w) :
    Calls Tryz.prog 60 #[.pointer (some ⟨vb, 0, none⟩), .pointer (some ⟨wb, 0, none⟩)] w fun e w' => e = .returned (.bool (sameW R T)) ∧ Below w.heap.size w w' := by
  have e1 := zF_eq (m := R.x) (n := T.x) (by have := hR.x; rw [p53]; omega) (by have := hT.x; rw [p53]; omega)
  have e2 := zF_eq (m := R.y) (n := T.y) (by have := hR.y; rw [p53]; omega) (by have := hT.y; rw [p53]; omega)
  have e3 := zF_eq (small_ways R.q).1 (small_ways T.q).1
  have e4 := zF_eq (small_ways R.q).2 (small_ways T.q).2
  have e5 : (R.b == T.b) = decide (R.b = T.b) := rfl
  have HQ := Lib.hid (ways_inj hR.q hT.q)
  unfold sameW
  rw [← HQ.out]
  obtain ⟨c0, c1, c2, -⟩ := h
  obtain ⟨d0, d1, d2, -⟩ := h'
  have hl1 := klt c0
  have hl2 := klt d0
  unfold cV at *
  generalize zF R.x = X at *
  generalize zF R.y = Y at *
  generalize zF (waysX R.q) = A at *
  generalize zF (waysY R.q) = B at *
  generalize zF T.x = X' at *
  generalize zF T.y = Y' at *
  generalize zF (waysX T.q) = A' at *
  generalize zF (waysY T.q) = B' at *
  generalize decide (R.x = T.x) = D1 at *
  generalize decide (R.y = T.y) = D2 at *
  generalize decide (waysX R.q = waysX T.q) = D3 at *
  generalize decide (waysY R.q = waysY T.q) = D4 at *
  generalize decide (R.b = T.b) = D5 at *
  clear hR hT HQ
  have hp_0 := c0
  have hp_1 := c1
  have hp_2 := c2
  have hq_0 := d0
  have hq_1 := d1
  have hq_2 := d2
  have hB : Below w.heap.size w w := Below.refl _ _
  clear c0 c1 c2 d0 d1 d2
  have hcase : D1 = false ∨ (D1 = true ∧ D2 = false) ∨ (D1 = true ∧ D2 = true ∧ D3 = false) ∨ (D1 = true ∧ D2 = true ∧ D3 = true ∧ D4 = false) ∨ (D1 = true ∧ D2 = true ∧ D3 = true ∧ D4 = true) := by
    cases D1 <;> cases D2 <;> cases D3 <;> cases D4 <;> simp
  rcases hcase with rfl | ⟨rfl, rfl⟩ | ⟨rfl, rfl, rfl⟩ | ⟨rfl, rfl, rfl, rfl⟩ | ⟨rfl, rfl, rfl, rfl⟩
  all_goals
    (try simp only [Bool.false_and, Bool.true_and, Bool.and_false])
    go_enter Tryz.func60, Tryz.ntmps60
    go_wp2_with fail
    refine wp_region_plan (fun w' => w'.cell? ⟨vb, 0, none⟩ = some (.complex .f64 X Y) ∧ w'.cell? ⟨vb, 1, none⟩ = some (.complex .f64 A B) ∧ w'.cell? ⟨vb, 2, none⟩ = some (.int .u8 R.b) ∧ w'.cell? ⟨wb, 0, none⟩ = some (.complex .f64 X' Y') ∧ w'.cell? ⟨wb, 1, none⟩ = some (.complex .f64 A' B') ∧ w'.cell? ⟨wb, 2, none⟩ = some (.int .u8 T.b) ∧ Below w.heap.size w w') (by kernel_rfl) (by kernel_rfl) (by kernel_rfl) ?_ ?_
    · (try dsimp only)
      refine ⟨?_, ?_, ?_, ?_, ?_, ?_, ?_⟩ <;> first | (go_simp; done) | (simp [*]; done) | go_grown
    repeat (first
      | (refine Plan.val (v := ?_) ?_ ?_ ?_; rotate_left; (· rfl); (· (intro W hSw; (try dsimp only at hSw); go_simp; all_goals (first | (with_reducible rfl) | (constructor <;> (with_reducible rfl)) | (rw [if_neg (by omega)]; done) | (rw [if_neg (by omega)]; with_reducible rfl)))); (try simp only [Act.put, List.setIfInBounds_toArray, List.set_cons_zero, List.set_cons_succ]))
      | (refine Plan.no ?_ ?_; (· rfl); (try simp only [Act.put, List.setIfInBounds_toArray, List.set_cons_zero, List.set_cons_succ])))
    refine Plan.done ?_
    intro wz T
    (try dsimp only at T)
    have hBe := T.2.2.2.2.2.2
    go_wp2
    go_ret
    exact ⟨by first | rfl | (simp; done), by go_grown⟩
end Go.Proofs.YtcnejgilmciljaaGreatDoor
set_option linter.unusedSimpArgs false
set_option linter.unusedVariables false
namespace Go.Proofs.YtcnejgilmciljaaGreatDoor
open Go.RowKit Go.PlainAid

section
variable {bb mb mbb pb wb : Nat} {B : Bs} {F G : Nat → Prop} {w : World}
set_option maxRecDepth 100000 in
theorem bcycles_c (h : Pv bb mb mbb pb wb B F G w) : Calls Tryz.prog 23 #[.pointer (some ⟨bb, 0, none⟩)] w fun e w' => e = .returned (.int .i64 B.n) ∧ Below w.heap.size w w' := by
  have c9 := h.c9
  clear h
  go_enter Tryz.func23, Tryz.ntmps23
  go_wp2
  go_ret
  exact ⟨rfl, by go_grown⟩
set_option maxRecDepth 100000 in
theorem birq_c (h : Pv bb mb mbb pb wb B F G w) : Calls Tryz.prog 54 #[.pointer (some ⟨bb, 0, none⟩)] w fun e w' => e = .returned (.bool (B.T.g && B.T.s)) ∧ Below w.heap.size w w' := by
  have HI := Lib.hid (fun W (hW : Below w.heap.size w W) => irqp_c bb 1 B.T W (h.t.below hW))
  generalize (B.T.g && B.T.s) = R at *
  clear h
  go_enter Tryz.func54, Tryz.ntmps54
  go_wp2_with fail
  refine (HI.out _ (by go_grown)).mono ?_
  rintro _ u ⟨rfl, hb⟩
  have HB := Lib.hid hb
  clear hb
  go_wp2
  go_ret
  exact ⟨rfl, HB.out⟩
set_option maxRecDepth 100000 in
theorem btimer_c (h : Pv bb mb mbb pb wb B F G w) : Calls Tryz.prog 53 #[.pointer (some ⟨bb, 0, none⟩)] w fun e w' => e = .returned (tmVal B.T) ∧ Below w.heap.size w w' := by
  obtain ⟨t0, t1, t2, t3, t4, t5⟩ := h.t.cells
  have hlt := klt h.c0
  clear h
  unfold tmVal
  go_enter Tryz.func53, Tryz.ntmps53
  go_wp2
  refine bodyPost_ret (v := .agg #[.int .i64 B.T.l, .int .i64 B.T.c, .bool B.T.r, .bool B.T.a, .bool B.T.s, .bool B.T.g]) (by simp [results, Tryz.results53, go_sem] <;> first | done | rfl | exact dec_eq Iff.rfl) rfl ⟨rfl, by go_grown⟩
set_option maxRecDepth 100000 in
theorem bmemory_c (h : Pv bb mb mbb pb wb B F G w) : Calls Tryz.prog 21 #[.pointer (some ⟨bb, 0, none⟩)] w fun e w' => ∃ mb mbb, e = .returned (.pointer (some ⟨mb, 0, none⟩)) ∧ Pm mb mbb w' B.M ∧ w.heap.size ≤ mb ∧ w.heap.size ≤ mbb ∧ Below w.heap.size w w' := by
  have HM := Lib.hid (fun W (hW : Below w.heap.size w W) => clonep_c B.M mb mbb W (h.m.below hW))
  have c0 := h.c0
  clear h
  unfold NewEnd at HM
  go_enter Tryz.func21, Tryz.ntmps21
  go_wp2_with fail
  refine (HM.out _ (by go_grown)).mono ?_
  rintro _ u ⟨rfl, hb, hp⟩
  have HE := Lib.hid (And.intro hb hp)
  clear hb hp
  go_wp2
  go_ret
  exact ⟨_, _, rfl, HE.out.2, by omega, Nat.le_refl _, HE.out.1⟩
set_option maxRecDepth 100000 in
theorem bports_c (h : Pv bb mb mbb pb wb B F G w) (hS : Fit B.S) : Calls Tryz.prog 29 #[.pointer (some ⟨bb, 0, none⟩)] w (NewT (fun b => PO b B.S) (fun v => v) w) := by
  have HM := Lib.hid (fun W (hW : Below w.heap.size w W) => pclone_c pb B.S hS F G W (h.below hW).p)
  have c7 := h.c7
  clear h
  unfold NewEndP at HM
  go_enter Tryz.func29, Tryz.ntmps29
  go_wp2_with fail
  refine (HM.out _ (by go_grown)).mono ?_
  rintro _ u ⟨qb, F', G', rfl, hp, hg, hl, hb⟩
  have HE := Lib.hid (And.intro hp (And.intro hg (And.intro hl hb)))
  clear hp hg hl hb
  go_wp2
  go_ret
  exact ⟨_, _, _, rfl, HE.out⟩
set_option maxRecDepth 100000 in
theorem bwheel_c (h : Pv bb mb mbb pb wb B F G w) : Calls Tryz.prog 52 #[.pointer (some ⟨bb, 0, none⟩)] w fun e w' => ∃ wb, e = .returned (.pointer (some ⟨wb, 0, none⟩)) ∧ Pw wb B.W w' ∧ w.heap.size ≤ wb ∧ Below w.heap.size w w' := by
  have HM := Lib.hid (fun W (hW : Below w.heap.size w W) => wclone_c wb B.W W (h.h.below hW))
  have c8 := h.c8
  clear h
  go_enter Tryz.func52, Tryz.ntmps52
  go_wp2_with fail
  refine (HM.out _ (by go_grown)).mono ?_
  rintro _ u ⟨qb, rfl, hp, hl, hb⟩
  have HE := Lib.hid (And.intro hp (And.intro hl hb))
  clear hp hl hb
  go_wp2
  go_ret
  exact ⟨_, rfl, HE.out⟩
end
/-! A nil one. -/
set_option maxRecDepth 100000 in
theorem bread_nil (a : Int) (w : World) : Calls Tryz.prog 13 #[.pointer none, .int .i64 a] w fun e w' => e = .returned (rdBV (0, 0, 2)) ∧ Below w.heap.size w w' := by
  unfold rdBV
  go_enter Tryz.func13, Tryz.ntmps13
  go_wp2
  refine bodyPost_ret (v := .tuple #[.agg #[.int .u8 0, .int .u8 0], .int .i64 2]) (by simp [results, Tryz.results13, go_sem] <;> first | done | rfl | exact dec_eq Iff.rfl) rfl ⟨rfl, by go_grown⟩
set_option maxRecDepth 100000 in
theorem bwrite_nil (a v t : Int) (w : World) : Calls Tryz.prog 11 #[.pointer none, .int .i64 a, .agg #[.int .u8 v, .int .u8 t]] w fun e w' => e = .returned (wrBV (0, 2)) ∧ Below w.heap.size w w' := by
  unfold wrBV
  go_enter Tryz.func11, Tryz.ntmps11
  go_wp2
  refine bodyPost_ret (v := .tuple #[.int .i64 0, .int .i64 2]) (by simp [results, Tryz.results11, go_sem] <;> first | done | rfl | exact dec_eq Iff.rfl) rfl ⟨rfl, by go_grown⟩
set_option maxRecDepth 100000 in
theorem birq_nil (w : World) : Calls Tryz.prog 54 #[.pointer none] w fun e w' => e = .returned (.bool false) ∧ Below w.heap.size w w' := by
  go_enter Tryz.func54, Tryz.ntmps54
  go_wp2
  go_ret
  exact ⟨rfl, by go_grown⟩
set_option maxRecDepth 100000 in
theorem bcycles_nil (w : World) : Calls Tryz.prog 23 #[.pointer none] w fun e w' => e = .returned (.int .i64 0) ∧ Below w.heap.size w w' := by
  go_enter Tryz.func23, Tryz.ntmps23
  go_wp2
  go_ret
  exact ⟨rfl, by go_grown⟩
set_option maxRecDepth 100000 in
theorem bmemory_nil (w : World) : Calls Tryz.prog 21 #[.pointer none] w fun e w' => e = .returned (.pointer none) ∧ Below w.heap.size w w' := by
  go_enter Tryz.func21, Tryz.ntmps21
  go_wp2
  go_ret
  exact ⟨rfl, by go_grown⟩
set_option maxRecDepth 100000 in
theorem btimer_nil (w : World) : Calls Tryz.prog 53 #[.pointer none] w fun e w' => e = .returned (tmVal ⟨0, 0, false, false, false, false⟩) ∧ Below w.heap.size w w' := by
  unfold tmVal
  go_enter Tryz.func53, Tryz.ntmps53
  go_wp2
  refine bodyPost_ret (v := .agg #[.int .i64 0, .int .i64 0, .bool false, .bool false, .bool false, .bool false]) (by simp [results, Tryz.results53, go_sem] <;> first | done | rfl | exact dec_eq Iff.rfl) rfl ⟨rfl, by go_grown⟩
set_option maxRecDepth 100000 in
theorem bports_nil (w : World) : Calls Tryz.prog 29 #[.pointer none] w fun e w' => e = .returned (.pointer none) ∧ Below w.heap.size w w' := by
  go_enter Tryz.func29, Tryz.ntmps29
  go_wp2
  go_ret
  exact ⟨rfl, by go_grown⟩
set_option maxRecDepth 100000 in
theorem bwheel_nil (w : World) : Calls Tryz.prog 52 #[.pointer none] w fun e w' => e = .returned (.pointer none) ∧ Below w.heap.size w w' := by
  go_enter Tryz.func52, Tryz.ntmps52
  go_wp2
  go_ret
  exact ⟨rfl, by go_grown⟩
set_option maxRecDepth 100000 in
theorem bclone_nil (w : World) : Calls Tryz.prog 22 #[.pointer none] w fun e w' => e = .returned (.pointer none) ∧ Below w.heap.size w w' := by
  go_enter Tryz.func22, Tryz.ntmps22
  go_wp2
  go_ret
  exact ⟨rfl, by go_grown⟩
set_option maxRecDepth 100000 in
theorem blow_nn (w : World) : Calls Tryz.prog 17 #[.pointer none, .pointer none] w fun e w' => e = .returned (.bool true) ∧ Below w.heap.size w w' := by
  go_enter Tryz.func17, Tryz.ntmps17
  go_wp2
  go_ret
  exact ⟨rfl, by go_grown⟩
set_option maxRecDepth 100000 in
theorem blow_np (p : Addr) (w : World) : Calls Tryz.prog 17 #[.pointer none, .pointer (some p)] w fun e w' => e = .returned (.bool false) ∧ Below w.heap.size w w' := by
  go_enter Tryz.func17, Tryz.ntmps17
  go_wp2
  go_ret
  exact ⟨rfl, by go_grown⟩
end Go.Proofs.YtcnejgilmciljaaGreatDoor
set_option linter.unusedSimpArgs false
set_option linter.unusedVariables false
namespace Go.Proofs.YtcnejgilmciljaaGreatDoor
open Go.RowKit Go.PlainAid

/-- Calls that answer parts of their own: memory, ports, a wheel. -/
def isP (v : Value) : Prop := ∃ p, v = .pointer p
def MemP (M : Int → Int × Int) (x : Gt) (w : World) : Prop := ∃ mb mbb, x.v = .pointer (some ⟨mb, 0, none⟩) ∧ Pm mb mbb w M ∧ (x.lo ≤ mb ∧ mb < x.hi) ∧ x.lo ≤ mbb ∧ mbb < x.hi
def PrtP (S : Po) (x : Gt) (w : World) : Prop := ∃ pb F G, x.v = .pointer (some ⟨pb, 0, none⟩) ∧ PO pb S F G w ∧ ∀ k, G k → x.lo ≤ k ∧ k < x.hi
def WhlP (W : Wh) (x : Gt) (w : World) : Prop := ∃ wb, x.v = .pointer (some ⟨wb, 0, none⟩) ∧ Pw wb W w ∧ x.lo ≤ wb ∧ wb < x.hi
def gMem (M : Int → Int × Int) : KdR := .any (.pointer none) isP (MemP M)
def gPrt (S : Po) : KdR := .any (.pointer none) isP (PrtP S)
def gWhl (W : Wh) : KdR := .any (.pointer none) isP (WhlP W)
theorem gMem_fine (M : Int → Int × Int) : (gMem M).Fine := ⟨⟨_, rfl⟩, fun x W w1 h hb => by obtain ⟨mb, mbb, e, h, hl⟩ := h; exact ⟨mb, mbb, e, h.below hb, hl⟩, fun x w h => by obtain ⟨mb, mbb, e, _⟩ := h; exact ⟨_, e⟩⟩
theorem gPrt_fine (S : Po) : (gPrt S).Fine := ⟨⟨_, rfl⟩, fun x W w1 h hb => by obtain ⟨pb, F, G, e, h, hl⟩ := h; exact ⟨pb, F, G, e, (PO.frm _ _).below h hb, hl⟩, fun x w h => by obtain ⟨pb, F, G, e, _⟩ := h; exact ⟨_, e⟩⟩
theorem gWhl_fine (W : Wh) : (gWhl W).Fine := ⟨⟨_, rfl⟩, fun x V w1 h hb => by obtain ⟨wb, e, h, hl⟩ := h; exact ⟨wb, e, h.below hb, hl⟩, fun x w h => by obtain ⟨wb, e, _⟩ := h; exact ⟨_, e⟩⟩
def oneAgg (l : List Value) : Value := .agg #[l.headD undef]
set_option maxRecDepth 100000 in
set_option maxHeartbeats 8000000 in
theorem bclone_c {bb mb mbb pb wb : Nat} {B : Bs} {F G : Nat → Prop} {w : World} (h : Pv bb mb mbb pb wb B F G w) (hS : Fit B.S) :
    Calls Tryz.prog 22 #[.pointer (some ⟨bb, 0, none⟩)] w (NewT (fun b => BO b B) (fun v => v) w) := by
  have HM := Lib.hid (fun W (hW : Below w.heap.size w W) => bmemory_c (h.below hW))
  have HP := Lib.hid (fun W (hW : Below w.heap.size w W) => bports_c (h.below hW) hS)
  have HW := Lib.hid (fun W (hW : Below w.heap.size w W) => bwheel_c (h.below hW))
  unfold NewT at HP
  obtain ⟨t0, t1, t2, t3, t4, t5⟩ := h.t.cells
  have c9 := h.c9
  obtain ⟨BM, BT, BS, BW, bn⟩ := B
  dsimp only at *
  obtain ⟨l, c, r, a, s, g⟩ := BT
  dsimp only at *
  clear h
  go_enter Tryz.func22, Tryz.ntmps22
  go_wp2_with fail
  refine wp_region_planD 9 15 (fun W => (W.cell? ⟨bb, 1, none⟩ = some (.int .i64 l) ∧ W.cell? ⟨bb, 2, none⟩ = some (.int .i64 c) ∧ W.cell? ⟨bb, 3, none⟩ = some (.bool r) ∧ W.cell? ⟨bb, 4, none⟩ = some (.bool a) ∧ W.cell? ⟨bb, 5, none⟩ = some (.bool s) ∧ W.cell? ⟨bb, 6, none⟩ = some (.bool g) ∧ W.cell? ⟨bb, 9, none⟩ = some (.int .i64 bn)) ∧ Below w.heap.size w W)
    [.val (.pointer (some ⟨bb, 0, none⟩)), gMem BM, .fn [1] oneAgg, .val (.pointer (some ⟨bb, 0, none⟩)), .val (.pointer (some ⟨bb, 0, none⟩)), .val (.pointer (some ⟨bb, 1, none⟩)), .val (.agg #[.int .i64 l, .int .i64 c, .bool r, .bool a, .bool s, .bool g]), .val (.pointer (some ⟨bb, 0, none⟩)), gPrt BS, .val (.pointer (some ⟨bb, 0, none⟩)), gWhl BW, .val (.pointer (some ⟨bb, 0, none⟩)), .val (.pointer (some ⟨bb, 0, none⟩)), .val (.pointer (some ⟨bb, 9, none⟩)), .val (.int .i64 bn)]
    (by kernel_rfl) (by kernel_rfl) (by kernel_rfl) (by kernel_rfl) (by kernel_rfl) (fun W w1 h hb => ⟨⟨kc hb h.1.1, kc hb h.1.2.1, kc hb h.1.2.2.1, kc hb h.1.2.2.2.1, kc hb h.1.2.2.2.2.1, kc hb h.1.2.2.2.2.2.1, kc hb h.1.2.2.2.2.2.2⟩, h.2.trans (hb.mono h.2.size)⟩) ?_ ?_ ?_
  · intro k hk
    simp only [List.mem_cons, List.not_mem_nil, or_false] at hk
    rcases hk with rfl | rfl | rfl | rfl | rfl | rfl | rfl | rfl | rfl | rfl | rfl | rfl | rfl | rfl | rfl <;> first | exact trivial | exact gMem_fine _ | exact gPrt_fine _ | exact gWhl_fine _
  · exact ⟨⟨t0, t1, t2, t3, t4, t5, c9⟩, Below.drew (Below.refl _ _)⟩
  (try simp only [List.append_eq, List.cons_append, List.nil_append, List.toList_toArray, List.take_succ_cons, List.take_zero, List.drop_succ_cons, List.drop_zero])
  (iterate 1 (refine PlanR.val ?_ ?_ ?_; (· rfl); (· (intro W hSw; obtain ⟨⟨s0, s1, s2, s3, s4, s5, s6⟩, -⟩ := hSw; go_simp; all_goals (first | (with_reducible rfl) | (constructor <;> (with_reducible rfl))))); intro _ _; (try simp only [Act.put, List.setIfInBounds_toArray, List.set_cons_zero, List.set_cons_succ])))
  refine PlanR.any ?_ ?_ ?_
  · rfl
  · intro W hSw _
    (try dsimp only at hSw)
    go_simp
    refine ⟨rfl, (HM.out W hSw.2).mono ?_⟩
    rintro _ u ⟨nb, nbb, rfl, hp, h1, h2, hb⟩
    exact ⟨_, rfl, hb, nb, nbb, rfl, hp, ⟨h1, klt hp.c0⟩, h2, hp.lt⟩
  rintro ⟨_, lom, him⟩ ⟨mp, rfl⟩
  (try simp only [Act.put, List.setIfInBounds_toArray, List.set_cons_zero, List.set_cons_succ])
  refine PlanR.fn (v := .agg #[.pointer mp]) ?_ ?_ ?_ ?_
  · rfl
  · rfl
  · intro W hSw; go_simp; all_goals (first | done | (with_reducible rfl))
  intro _ _
  (try simp only [Act.put, List.setIfInBounds_toArray, List.set_cons_zero, List.set_cons_succ])
  (iterate 5 (refine PlanR.val ?_ ?_ ?_; (· rfl); (· (intro W hSw; obtain ⟨⟨s0, s1, s2, s3, s4, s5, s6⟩, -⟩ := hSw; go_simp; all_goals (first | (with_reducible rfl) | (constructor <;> (with_reducible rfl))))); intro _ _; (try simp only [Act.put, List.setIfInBounds_toArray, List.set_cons_zero, List.set_cons_succ])))
  refine PlanR.any ?_ ?_ ?_
  · rfl
  · intro W hSw _
    (try dsimp only at hSw)
    go_simp
    refine ⟨rfl, (HP.out W hSw.2).mono ?_⟩
    rintro _ u ⟨nb, F', G', rfl, hp, hg, hl, hb⟩
    exact ⟨_, rfl, hb, nb, F', G', rfl, hp, fun k hk => ⟨hg k hk, (PO.frm _ _).lt hp k hk⟩⟩
  rintro ⟨_, lop, hip⟩ ⟨pp, rfl⟩
  (try simp only [Act.put, List.setIfInBounds_toArray, List.set_cons_zero, List.set_cons_succ])
  (iterate 1 (refine PlanR.val ?_ ?_ ?_; (· rfl); (· (intro W hSw; obtain ⟨⟨s0, s1, s2, s3, s4, s5, s6⟩, -⟩ := hSw; go_simp; all_goals (first | (with_reducible rfl) | (constructor <;> (with_reducible rfl))))); intro _ _; (try simp only [Act.put, List.setIfInBounds_toArray, List.set_cons_zero, List.set_cons_succ])))
  refine PlanR.any ?_ ?_ ?_
  · rfl
  · intro W hSw _
    (try dsimp only at hSw)
    go_simp
    refine ⟨rfl, (HW.out W hSw.2).mono ?_⟩
    rintro _ u ⟨nb, rfl, hp, hl, hb⟩
    exact ⟨_, rfl, hb, nb, rfl, hp, hl, hp.lt⟩
  rintro ⟨_, low, hiw⟩ ⟨wp, rfl⟩
  (try simp only [Act.put, List.setIfInBounds_toArray, List.set_cons_zero, List.set_cons_succ])
  (iterate 4 (refine PlanR.val ?_ ?_ ?_; (· rfl); (· (intro W hSw; obtain ⟨⟨s0, s1, s2, s3, s4, s5, s6⟩, -⟩ := hSw; go_simp; all_goals (first | (with_reducible rfl) | (constructor <;> (with_reducible rfl))))); intro _ _; (try simp only [Act.put, List.setIfInBounds_toArray, List.set_cons_zero, List.set_cons_succ])))
  refine PlanR.done ?_
  intro u G
  have hB : Below w.heap.size w u := G.s.2
  have em := G.each 1 (by decide) rfl
  have ep := G.each 8 (by decide) rfl
  have ew := G.each 10 (by decide) rfl
  have a1 := G.apart 1 8 (by decide) (by decide) rfl rfl (by decide)
  have a2 := G.apart 1 10 (by decide) (by decide) rfl rfl (by decide)
  have a3 := G.apart 8 10 (by decide) (by decide) rfl rfl (by decide)
  clear G
  simp (config := { decide := true }) only [if_true, if_false, ite_true, ite_false, Nat.reduceEqDiff, reduceIte] at em ep ew a1 a2 a3
  obtain ⟨⟨mb', mbb', e1, hpm, m1, m2⟩, m3, m4, m5⟩ := em
  obtain ⟨⟨pb', F', G', e2, hpo, hg⟩, p3, p4, p5⟩ := ep
  obtain ⟨⟨wb', e3, hpw, w1, w2⟩, w3, w4, w5⟩ := ew
  injection e1 with e1
  injection e2 with e2
  injection e3 with e3
  subst e1; subst e2; subst e3
  (try dsimp only at *)
  have HE := Lib.hid (show ∀ Z, Z = u.alloc (Obj.cells #[.pointer (some ⟨mb', 0, none⟩), .int .i64 l, .int .i64 c, .bool r, .bool a, .bool s, .bool g, .pointer (some ⟨pb', 0, none⟩), .pointer (some ⟨wb', 0, none⟩), .int .i64 bn] 113) → NewT (fun b => BO b ⟨BM, ⟨l, c, r, a, s, g⟩, BS, BW, bn⟩) (fun v => v) w (.returned (.pointer (some ⟨u.heap.size, 0, none⟩))) Z from fun Z hZ => by
    have hbZ : Below u.heap.size u Z := by rw [hZ]; go_grown
    have hs := hB.size
    have hpo' := (PO.frm _ _).below hpo hbZ
    refine ⟨u.heap.size, _, _, rfl, ⟨mb', mbb', pb', wb', F', G', ⟨by rw [hZ]; go_simp; first | done | rfl, ?_, by rw [hZ]; go_simp; first | done | rfl, by rw [hZ]; go_simp; first | done | rfl, by rw [hZ]; go_simp; first | done | rfl, by rw [hZ]; go_simp, hpm.below hbZ, hpo', hpw.below hbZ, ?_⟩, rfl, rfl⟩, ?_, hs, Below.trans hB (hbZ.mono hs)⟩
    · refine Tw.mk6 (by rw [hZ]; go_simp; first | done | rfl) (by rw [hZ]; go_simp; first | done | rfl) (by rw [hZ]; go_simp; first | done | rfl) (by rw [hZ]; go_simp; first | done | rfl) (by rw [hZ]; go_simp; first | done | rfl) (by rw [hZ]; go_simp; first | done | rfl) (by rw [hZ]; go_simp) (by rw [hZ]; go_simp) (by rw [hZ]; go_simp) (by rw [hZ]; go_simp) (by rw [hZ]; go_simp) (by rw [hZ]; go_simp)
    · exact ⟨by omega, by omega, by omega, fun e => by have := hg _ e; omega, by omega, fun e => by have := hg _ e; omega, by omega, fun e => by have := hg _ e; omega, fun e => by have := hg _ e; omega⟩
    · rintro k (rfl | rfl | rfl | rfl | hk)
      · exact hs
      · omega
      · omega
      · omega
      · have := hg _ hk; omega)
  clear hpm hpo hpw hg a1 a2 a3 m1 m2 m3 m4 m5 p3 p4 p5 w1 w2 w3 w4 w5 HM HP HW
  go_wp2
  go_ret
  exact HE.out _ rfl
end Go.Proofs.YtcnejgilmciljaaGreatDoor
