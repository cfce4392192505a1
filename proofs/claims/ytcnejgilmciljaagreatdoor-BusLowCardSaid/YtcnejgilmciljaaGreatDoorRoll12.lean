/-
  The program's Write: where nothing turns; what Whole answers of a turn, and of steps.
  The program's Write: it turns, and rolls.
-/
import Derived.Test.YtcnejgilmciljaaGreatDoorClone13
import Derived.Test.YtcnejgilmciljaaGreatDoorRef11
set_option linter.unusedSimpArgs false
set_option linter.unusedVariables false
namespace Go.Proofs.YtcnejgilmciljaaGreatDoor
open Go.RowKit Go.PlainAid

/-- The rule, the error. -/
def wrE (reg t : Int) : Int × Int := if ¬ (0 ≤ reg ∧ reg ≤ 2) then (0, 10) else if t ≠ 0 then (4, 20) else (0, 0)
def wrS (R : Wh) (reg v t : Int) : Wh := if reg = 0 ∧ t = 0 then rollW R v else R
def WrEnd (wb : Nat) (R : Wh) (reg v t : Int) (w : World) : Ending → World → Prop := fun e w' =>
  e = .returned (.tuple #[.int .i64 (wrE reg t).1, .int .i64 (wrE reg t).2]) ∧ Pw wb (wrS R reg v t) w' ∧ Fr (fun k => k = wb) w w'
theorem wrEnd_no {wb : Nat} {R : Wh} {reg v t U E : Int} {w w' : World} (hE : wrE reg t = (U, E)) (hS : wrS R reg v t = R) (h : Pw wb R w) (hb : Below w.heap.size w w') : WrEnd wb R reg v t w (.returned (.tuple #[.int .i64 U, .int .i64 E])) w' := by
  refine ⟨by rw [hE], ?_, Fr.ofBelow hb⟩
  rw [hS]; exact h.below hb
set_option maxRecDepth 100000 in
theorem wwrite_nil (reg v t : Int) (w : World) : Calls Tryz.prog 106 #[.pointer none, .int .i64 reg, .agg #[.int .u8 v, .int .u8 t]] w fun e w' => e = .returned (.tuple #[.int .i64 0, .int .i64 2]) ∧ Below w.heap.size w w' := by
  go_enter Tryz.func106, Tryz.ntmps106
  go_wp2
  go_ret2
  exact ⟨rfl, by go_grown⟩
set_option maxRecDepth 100000 in
theorem isreg_c (r : Int) (w : World) : Calls Tryz.prog 118 #[.int .i64 r] w fun e w' => e = .returned (.bool (decide (0 ≤ r) && decide (r ≤ 2))) ∧ Below w.heap.size w w' := by
  have h : decide (0 ≤ r) = true ∧ decide (r ≤ 2) = true ∨ decide (0 ≤ r) = true ∧ decide (r ≤ 2) = false ∨ decide (0 ≤ r) = false := by
    cases decide (0 ≤ r) <;> cases decide (r ≤ 2) <;> simp
  rcases h with ⟨h1, h2⟩ | ⟨h1, h2⟩ | h1
  all_goals
    go_enter Tryz.func118, Tryz.ntmps118
    go_wp2
    go_ret
    exact ⟨by simp_all <;> omega, by go_grown⟩
set_option maxRecDepth 100000 in
theorem wwrite_no (wb : Nat) (R : Wh) (reg v t : Int) (hn : ¬ (reg = 0 ∧ t = 0)) (w : World) (h : Pw wb R w) :
    Calls Tryz.prog 106 #[.pointer (some ⟨wb, 0, none⟩), .int .i64 reg, .agg #[.int .u8 v, .int .u8 t]] w (WrEnd wb R reg v t w) := by
  have HP := Lib.hid h
  have HS := Lib.hid (show wrS R reg v t = R from by unfold wrS; rw [if_neg hn])
  have HA := Lib.hid (show Below w.heap.size w (w.alloc (Obj.cells #[Value.int .u8 v, Value.int .u8 t] 49)) from by go_grown)
  obtain ⟨g, hg⟩ : ∃ g, (decide (0 ≤ reg) && decide (reg ≤ 2)) = g := ⟨_, rfl⟩
  have HI := Lib.hid (fun W => isreg_c reg W)
  rw [hg] at HI
  have hgr : g = true ↔ 0 ≤ reg ∧ reg ≤ 2 := by rw [← hg]; simp
  clear h hg
  cases g
  · have HE := Lib.hid (show wrE reg t = (0, 10) from by unfold wrE; rw [if_pos (fun h => by have := hgr.2 h; simp at this)])
    clear hn hgr
    go_enter Tryz.func106, Tryz.ntmps106
    go_wp2_with fail
    refine (HI.out _).mono ?_
    rintro _ u ⟨rfl, hb⟩
    have HB := Lib.hid (Below.trans HA.out (hb.mono (by simp)))
    clear hb
    go_wp2
    go_ret2
    exact wrEnd_no HE.out HS.out HP.out HB.out
  · have hr := hgr.1 rfl
    clear hgr
    by_cases ht : t = 0
    · subst ht
      have d3 : (reg == 0) = false := by simpa using (fun e => hn ⟨e, rfl⟩)
      have HE := Lib.hid (show wrE reg 0 = (0, 0) from by unfold wrE; rw [if_neg (by omega), if_neg (by omega)])
      clear hn hr
      go_enter Tryz.func106, Tryz.ntmps106
      go_wp2_with fail
      refine (HI.out _).mono ?_
      rintro _ u ⟨rfl, hb⟩
      have k1 : u.cell? ⟨w.heap.size, 1, none⟩ = some (.int .u8 0) := by rw [(bcell hb).1 _ _ (by simp)]; go_simp; first | done | rfl
      have l0 := klt k1
      have HB := Lib.hid (Below.trans HA.out (hb.mono (by simp)))
      clear hb
      go_wp2
      go_ret2
      exact wrEnd_no HE.out HS.out HP.out HB.out
    · have d3 : (t != 0) = true := by simpa using ht
      have HE := Lib.hid (show wrE reg t = (4, 20) from by unfold wrE; rw [if_neg (by omega), if_pos ht])
      clear hn hr ht
      go_enter Tryz.func106, Tryz.ntmps106
      go_wp2_with fail
      refine (HI.out _).mono ?_
      rintro _ u ⟨rfl, hb⟩
      have k1 : u.cell? ⟨w.heap.size, 1, none⟩ = some (.int .u8 t) := by rw [(bcell hb).1 _ _ (by simp)]; go_simp; first | done | rfl
      have l0 := klt k1
      have HB := Lib.hid (Below.trans HA.out (hb.mono (by simp)))
      clear hb
      go_wp2
      go_ret2
      exact wrEnd_no HE.out HS.out HP.out HB.out
/-- A way by a quarter. -/
theorem turn_ways {q m : Int} (hq : 0 ≤ q ∧ q ≤ 3) (hm : 0 ≤ m ∧ m ≤ 3) : waysX q * waysX m - waysY q * waysY m = waysX ((q + m).tmod 4) ∧ waysX q * waysY m + waysY q * waysX m = waysY ((q + m).tmod 4) ∧
    backI (waysX ((q + m).tmod 4)) = waysX ((q + m).tmod 4) ∧ backI (waysY ((q + m).tmod 4)) = waysY ((q + m).tmod 4) := by
  rcases way_cases hq with rfl | rfl | rfl | rfl <;> rcases way_cases hm with rfl | rfl | rfl | rfl <;> decide
/-- What Whole answers of a way by a quarter: the next way. -/
theorem turn_c {q m : Int} (hq : 0 ≤ q ∧ q ≤ 3) (hm : 0 ≤ m ∧ m ≤ 3) : ∃ A B, (∀ (t : TypeId) (W : World), (binOp .mul t (cV (waysX q) (waysY q)) (cV (waysX m) (waysY m))).run Tryz.prog W = .ok (.complex .f64 A B) W) ∧
    ∀ W, Calls Tryz.prog 125 #[.complex .f64 A B] W fun e w' => e = .returned (cV (waysX ((q + m).tmod 4)) (waysY ((q + m).tmod 4))) ∧ Below W.heap.size W w' := by
  have s1 := small_ways q
  have s2 := small_ways m
  obtain ⟨h1, h2, h3, h4⟩ := turn_ways hq hm
  have sm : ∀ {a b : Int}, (a = 0 ∨ a = 1 ∨ a = -1) → (b = 0 ∨ b = 1 ∨ b = -1) → (a * b).natAbs ≤ 1 := fun ha hb => by
    rcases ha with rfl | rfl | rfl <;> rcases hb with rfl | rfl | rfl <;> decide
  have q1 := sm (waysX_of q) (waysX_of m)
  have q2 := sm (waysY_of q) (waysY_of m)
  have q3 := sm (waysX_of q) (waysY_of m)
  have q4 := sm (waysY_of q) (waysX_of m)
  have w1 : (waysX ((q + m).tmod 4)).natAbs ≤ 1 := by rcases waysX_of ((q + m).tmod 4) with h | h | h <;> rw [h] <;> decide
  have w2 : (waysY ((q + m).tmod 4)).natAbs ≤ 1 := by rcases waysY_of ((q + m).tmod 4) with h | h | h <;> rw [h] <;> decide
  obtain ⟨A, B, hc, za, zb⟩ := zw_cmul (zw_zF s1.1) (zw_zF s1.2) (zw_zF s2.1) (zw_zF s2.2) (by rw [p53]; omega) (by rw [p53]; omega) (by rw [p53]; omega) (by rw [p53]; omega) (by rw [p53]; omega) (by rw [p53]; omega)
  rw [h1] at za
  rw [h2] at zb
  refine ⟨A, B, fun t W => run_complex_mul W t _ _ _ _ _ _ hc, fun W => ?_⟩
  have := whole_c _ _ (by omega) (by omega) A B za zb W
  rw [h3, h4] at this
  exact this
/-- What Whole answers of a place and so many steps. -/
theorem roll_c {x y n q : Int} (hx : -128 ≤ x ∧ x ≤ 127) (hy : -128 ≤ y ∧ y ≤ 127) (hn : 0 ≤ n ∧ n ≤ 63) : ∃ A B C D, (∀ (t : TypeId) (W : World), (binOp .mul t (cV (waysX q) (waysY q)) (.complex .f64 (zF n) 0)).run Tryz.prog W = .ok (.complex .f64 A B) W) ∧
    (∀ (t : TypeId) (W : World), (binOp .add t (cV x y) (.complex .f64 A B)).run Tryz.prog W = .ok (.complex .f64 C D) W) ∧
    ∀ W, Calls Tryz.prog 125 #[.complex .f64 C D] W fun e w' => e = .returned (cV (backI (x + n * waysX q)) (backI (y + n * waysY q))) ∧ Below W.heap.size W w' := by
  have s1 := small_ways q
  have hz : ZW 0 0 := by have := zw_zF (n := 0) (by decide); rw [zF_zero] at this; exact this
  have k1 := step_b (W := 0) hx hn (waysX_of q)
  have k2 := step_b (W := 0) hy hn (waysY_of q)
  have e1 : waysX q * n = n * waysX q := Int.mul_comm _ _
  have e2 : waysY q * n = n * waysY q := Int.mul_comm _ _
  obtain ⟨A, B, hc, za, zb⟩ := zw_cmul (zw_zF s1.1) (zw_zF s1.2) (zw_zF (n := n) (by rw [p53]; omega)) hz (by rw [p53, e1]; omega) (by rw [Int.mul_zero]; decide) (by rw [Int.mul_zero]; decide) (by rw [p53, e2]; omega) (by rw [p53, e1, Int.mul_zero]; omega) (by rw [p53, e2, Int.mul_zero]; omega)
  rw [e1, Int.mul_zero, Int.sub_zero] at za
  rw [e2, Int.mul_zero, Int.zero_add] at zb
  obtain ⟨C, D, hs, zc, zd⟩ := zw_csum (zw_zF (n := x) (by rw [p53]; omega)) (zw_zF (n := y) (by rw [p53]; omega)) za zb (by rw [p53]; omega) (by rw [p53]; omega)
  exact ⟨A, B, C, D, fun t W => run_complex_mul W t _ _ _ _ _ _ hc, fun t W => run_complex_sum W .add (.inl rfl) t .f64 _ _ _ _ _ _ hs, fun W => whole_c _ _ (by omega) (by omega) C D zc zd W⟩
theorem conv_u8 (n : Int) (W : World) : (convert 5 147 (.int .u8 n)).run Tryz.prog W = .ok (.float .f64 (zF n)) W := by
  rw [← zF_of]
  exact run_convert_int_float W 5 147 .u8 .f64 n (by kernel_rfl) (by kernel_rfl)
end Go.Proofs.YtcnejgilmciljaaGreatDoor
set_option linter.unusedSimpArgs false
set_option linter.unusedVariables false
namespace Go.Proofs.YtcnejgilmciljaaGreatDoor
open Go.RowKit Go.PlainAid

theorem quarter_at (m : Int) (h : 0 ≤ m ∧ m ≤ 3) : cV (waysX m) (waysY m) = (if m = 0 then .complex .f64 4607182418800017408 0 else if m = 1 then .complex .f64 0 4607182418800017408 else if m = 2 then .complex .f64 13830554455654793216 0 else .complex .f64 0 13830554455654793216) := by
  unfold cV
  rcases way_cases h with rfl | rfl | rfl | rfl
  · rw [show waysX 0 = 1 from rfl, show waysY 0 = 0 from rfl, zF_one, zF_zero]; rfl
  · rw [show waysX 1 = 0 from rfl, show waysY 1 = 1 from rfl, zF_one, zF_zero]; rfl
  · rw [show waysX 2 = -1 from rfl, show waysY 2 = 0 from rfl, zF_neg1, zF_zero]; rfl
  · rw [show waysX 3 = 0 from rfl, show waysY 3 = -1 from rfl, zF_neg1, zF_zero]; rfl
theorem cV_form (x y : Int) : ∃ a b, cV x y = .complex .f64 a b := ⟨_, _, rfl⟩
/-- A wheel's cells, as they stand. -/
structure Cw (wb : Nat) (p q : Value) (b : Int) (w : World) : Prop where
  c0 : w.cell? ⟨wb, 0, none⟩ = some p
  c1 : w.cell? ⟨wb, 1, none⟩ = some q
  c2 : w.cell? ⟨wb, 2, none⟩ = some (.int .u8 b)
  f0 : w.frozen? ⟨wb, 0, none⟩ = false
  f1 : w.frozen? ⟨wb, 1, none⟩ = false
  f2 : w.frozen? ⟨wb, 2, none⟩ = false
theorem Cw.set1 {wb : Nat} {p q q' : Value} {b : Int} {w : World} (h : Cw wb p q b w) : Cw wb p q' b (w.setCell ⟨wb, 1, none⟩ q') := by
  obtain ⟨c0, c1, c2, f0, f1, f2⟩ := h
  have hl := klt c0
  exact ⟨by go_simp, by go_simp, by go_simp, by go_simp, by go_simp, by go_simp⟩
theorem Cw.set0 {wb : Nat} {p p' q : Value} {b : Int} {w : World} (h : Cw wb p q b w) : Cw wb p' q b (w.setCell ⟨wb, 0, none⟩ p') := by
  obtain ⟨c0, c1, c2, f0, f1, f2⟩ := h
  have hl := klt c0
  exact ⟨by go_simp, by go_simp, by go_simp, by go_simp, by go_simp, by go_simp⟩
theorem Cw.set2 {wb : Nat} {p q : Value} {b b' : Int} {w : World} (h : Cw wb p q b w) : Cw wb p q b' (w.setCell ⟨wb, 2, none⟩ (.int .u8 b')) := by
  obtain ⟨c0, c1, c2, f0, f1, f2⟩ := h
  have hl := klt c0
  exact ⟨by go_simp, by go_simp, by go_simp, by go_simp, by go_simp, by go_simp⟩
theorem Cw.below {wb : Nat} {p q : Value} {b : Int} {w u : World} (h : Cw wb p q b w) (hb : Below w.heap.size w u) : Cw wb p q b u := by
  have hF := Fr.ofBelow (F := fun _ => False) hb
  exact ⟨hF.cell h.c0 id, hF.cell h.c1 id, hF.cell h.c2 id, hF.frozen (klt h.c0) h.f0 id, hF.frozen (klt h.c0) h.f1 id, hF.frozen (klt h.c0) h.f2 id⟩
set_option maxRecDepth 100000 in
set_option maxHeartbeats 8000000 in
theorem turn_p (wb : Nat) (P : Value) (q m b : Int) (hq : 0 ≤ q ∧ q ≤ 3) (hm : 0 ≤ m ∧ m ≤ 3) (w : World) (h : Cw wb P (cV (waysX q) (waysY q)) b w) :
    Calls Tryz.prog 119 #[.pointer (some ⟨wb, 0, none⟩), .int .u8 m] w fun e w' => e = .returned (.tuple #[]) ∧ Cw wb P (cV (waysX ((q + m).tmod 4)) (waysY ((q + m).tmod 4))) b w' ∧ Fr (fun k => k = wb) w w' := by
  obtain ⟨A, B, hmul, HW⟩ := turn_c hq hm
  have HW1 := Lib.hid HW
  have hqm := quarter_at m hm
  have hst := store_cplx Tryz.prog
  have HEND := Lib.hid (fun (u : World) (p q q' : Value) (b : Int) => @Cw.set1 wb p q q' b u)
  obtain ⟨y1, y2, hy⟩ := cV_form (waysX ((q + m).tmod 4)) (waysY ((q + m).tmod 4))
  obtain ⟨t1, t2, ht⟩ := cV_form (waysX q) (waysY q)
  obtain ⟨m1, m2, hmm⟩ := cV_form (waysX m) (waysY m)
  rw [hy] at HW1 ⊢
  rw [ht] at hmul h
  rw [hmm] at hmul hqm
  have w1 : IntKind.u8.wrap m = m := by rcases way_cases hm with rfl | rfl | rfl | rfl <;> rfl
  clear hy ht hmm HW hq
  have hcase := way_cases hm
  clear hm
  obtain ⟨h0, h1, h2, g0, g1, g2⟩ := h
  have hlt := klt h0
  obtain ⟨q1, q2, q3, q4, q5⟩ := ap0 hlt
  rcases hcase with rfl | rfl | rfl | rfl
  all_goals
    simp only [if_true, if_false, Int.reduceEq, reduceIte] at hqm
    injection hqm with _ hq1 hq2
    subst hq1
    subst hq2
    go_enter Tryz.func119, Tryz.ntmps119
    go_wp2_with fail
    have hF0 := (Fr.refl (fun k => k = wb) w).alloc (.cells #[.complex .f64 4607182418800017408 0, .complex .f64 0 4607182418800017408, .complex .f64 13830554455654793216 0, .complex .f64 0 13830554455654793216] 183)
    obtain ⟨u0, hu0⟩ : ∃ W, W = w.alloc (.cells #[.complex .f64 4607182418800017408 0, .complex .f64 0 4607182418800017408, .complex .f64 13830554455654793216 0, .complex .f64 0 13830554455654793216] 183) := ⟨_, rfl⟩
    rw [← hu0] at hF0
    have HF0 := Lib.hid hF0
    have a0 : u0.cell? ⟨w.heap.size, 0, none⟩ = some (.complex .f64 4607182418800017408 0) := by rw [hu0]; go_simp; first | done | rfl
    have a1 : u0.cell? ⟨w.heap.size, 1, none⟩ = some (.complex .f64 0 4607182418800017408) := by rw [hu0]; go_simp; first | done | rfl
    have a2 : u0.cell? ⟨w.heap.size, 2, none⟩ = some (.complex .f64 13830554455654793216 0) := by rw [hu0]; go_simp; first | done | rfl
    have a3 : u0.cell? ⟨w.heap.size, 3, none⟩ = some (.complex .f64 0 13830554455654793216) := by rw [hu0]; go_simp; first | done | rfl
    have c0 : u0.cell? ⟨wb, 0, none⟩ = some P := by rw [hu0]; go_simp; first | done | rfl
    have c1 : u0.cell? ⟨wb, 1, none⟩ = some (.complex .f64 t1 t2) := by rw [hu0]; go_simp; first | done | rfl
    have c2 : u0.cell? ⟨wb, 2, none⟩ = some (.int .u8 b) := by rw [hu0]; go_simp; first | done | rfl
    have e0 : u0.frozen? ⟨wb, 0, none⟩ = false := by rw [hu0]; go_simp
    have e1 : u0.frozen? ⟨wb, 1, none⟩ = false := by rw [hu0]; go_simp
    have e2 : u0.frozen? ⟨wb, 2, none⟩ = false := by rw [hu0]; go_simp
    rw [← hu0]
    clear hu0 hF0 h0 h1 h2 g0 g1 g2
    have hp_0 := c0
    have hp_1 := c1
    have hp_2 := c2
    have fp_0 := e0
    have fp_1 := e1
    have fp_2 := e2
    have ha_0 := a0
    have ha_1 := a1
    have ha_2 := a2
    have ha_3 := a3
    have hl1 := klt c0
    have hl2 := klt a0
    have hB := Below.refl u0.heap.size u0
    refine wp_region_planT 10 (fun w' => w'.cell? ⟨wb, 0, none⟩ = some (P) ∧ w'.frozen? ⟨wb, 0, none⟩ = false ∧ w'.cell? ⟨wb, 1, none⟩ = some (.complex .f64 t1 t2) ∧ w'.frozen? ⟨wb, 1, none⟩ = false ∧ w'.cell? ⟨wb, 2, none⟩ = some (.int .u8 b) ∧ w'.frozen? ⟨wb, 2, none⟩ = false ∧ w'.cell? ⟨w.heap.size, 0, none⟩ = some (.complex .f64 4607182418800017408 0) ∧ w'.cell? ⟨w.heap.size, 1, none⟩ = some (.complex .f64 0 4607182418800017408) ∧ w'.cell? ⟨w.heap.size, 2, none⟩ = some (.complex .f64 13830554455654793216 0) ∧ w'.cell? ⟨w.heap.size, 3, none⟩ = some (.complex .f64 0 13830554455654793216) ∧ Below u0.heap.size u0 w') (by kernel_rfl) (by kernel_rfl) (by kernel_rfl) (by kernel_rfl) ?_ ?_
    · (try dsimp only)
      refine ⟨?_, ?_, ?_, ?_, ?_, ?_, ?_, ?_, ?_, ?_, ?_⟩ <;> first | (go_simp; done) | (simp [*]; done) | go_grown
    (try simp only [List.append_eq, List.cons_append, List.nil_append, List.toList_toArray, List.take_succ_cons, List.take_zero, List.drop_succ_cons, List.drop_zero])
    repeat (first
      | (refine Plan.val (v := ?_) ?_ ?_ ?_; rotate_left; (· rfl); (· (intro W hSw; (try dsimp only at hSw); go_simp; all_goals (first | (with_reducible rfl) | (constructor <;> (with_reducible rfl)) | (rw [if_neg (by omega)]; done) | (rw [if_neg (by omega)]; with_reducible rfl)))); (try simp only [Act.put, List.setIfInBounds_toArray, List.set_cons_zero, List.set_cons_succ]))
      | (refine Plan.no ?_ ?_; (· rfl); (try simp only [Act.put, List.setIfInBounds_toArray, List.set_cons_zero, List.set_cons_succ]))
      | (refine Plan.call (v := ?_) (f := ?_) (args := ?_) ?_ ?_ ?_ ?_; rotate_left 3; (· rfl); (· (intro W hSw; (try dsimp only at hSw); go_simp; all_goals (first | (with_reducible rfl) | (constructor <;> (with_reducible rfl)) | (rw [if_neg (by omega)]; done) | (rw [if_neg (by omega)]; with_reducible rfl)))); (· (intro W hSw; (try dsimp only at hSw); first | (go_at_call 125; ((with_reducible refine (HW1.out _).mono ?_); rintro _ wz ⟨rfl, hb⟩; (refine ⟨?_, ?_⟩; (· with_reducible rfl); exact ⟨kc hb hSw.1, kfz hb (klt hSw.1) hSw.2.1, kc hb hSw.2.2.1, kfz hb (klt hSw.2.2.1) hSw.2.2.2.1, kc hb hSw.2.2.2.2.1, kfz hb (klt hSw.2.2.2.2.1) hSw.2.2.2.2.2.1, kc hb hSw.2.2.2.2.2.2.1, kc hb hSw.2.2.2.2.2.2.2.1, kc hb hSw.2.2.2.2.2.2.2.2.1, kc hb hSw.2.2.2.2.2.2.2.2.2.1, kb hSw.2.2.2.2.2.2.2.2.2.2 hb⟩))))); (try simp only [Act.put, List.setIfInBounds_toArray, List.set_cons_zero, List.set_cons_succ])))
    refine Plan.done ?_
    intro u1 T
    (try dsimp only at T)
    obtain ⟨hp_0, fp_0, hp_1, fp_1, hp_2, fp_2, ha_0, ha_1, ha_2, ha_3, hB⟩ := T
    have hsz := hB.size
    have hlp := klt hp_0
    have hla := klt ha_0
    obtain ⟨hnp0, hnp1, hkp1, hnp2, hkp2⟩ := ap0 hlp
    obtain ⟨hna0, hna1, hka1, hna2, hka2⟩ := ap0 hla
    have HF1 := Lib.hid ((HF0.out.trans (Fr.ofBelow (F := fun _ => False) hB) (fun _ _ f => f.elim)))
    go_wp2
    go_end0
    exact ⟨rfl, HEND.out _ _ _ _ _ ⟨hp_0, hp_1, hp_2, fp_0, fp_1, fp_2⟩, HF1.out.setCell _ _ (fun _ => rfl)⟩
set_option maxRecDepth 100000 in
set_option maxHeartbeats 8000000 in
theorem roll_p (wb : Nat) (x y q n b : Int) (hx : -128 ≤ x ∧ x ≤ 127) (hy : -128 ≤ y ∧ y ≤ 127) (hn : 0 ≤ n ∧ n ≤ 63) (w : World) (h : Cw wb (cV x y) (cV (waysX q) (waysY q)) b w) :
    Calls Tryz.prog 120 #[.pointer (some ⟨wb, 0, none⟩), .int .u8 n] w fun e w' => e = .returned (.tuple #[]) ∧ Cw wb (cV (backI (x + n * waysX q)) (backI (y + n * waysY q))) (cV (waysX q) (waysY q)) b w' ∧ Fr (fun k => k = wb) w w' := by
  obtain ⟨A2, B2, C2, D2, hmul2, hadd2, HW⟩ := roll_c (q := q) hx hy hn
  have HW2 := Lib.hid HW
  have hcv := conv_u8 n
  have hst := store_cplx Tryz.prog
  have HEND := Lib.hid (fun (u : World) (p p' q : Value) (b : Int) => @Cw.set0 wb p p' q b u)
  obtain ⟨x1, x2, hx⟩ := cV_form (backI (x + n * waysX q)) (backI (y + n * waysY q))
  obtain ⟨z1, z2, hz⟩ := cV_form x y
  obtain ⟨t1, t2, ht⟩ := cV_form (waysX q) (waysY q)
  rw [hx] at HW2 ⊢
  rw [hz] at hadd2 h
  rw [ht] at hmul2 h ⊢
  have w2 : IntKind.u8.wrap n = n := IntWalk.u8_in _ (by omega)
  generalize zF n = N at *
  clear hx hz ht HW hn
  obtain ⟨hp_0, hp_1, hp_2, fp_0, fp_1, fp_2⟩ := h
  have hl1 := klt hp_0
  go_enter Tryz.func120, Tryz.ntmps120
  go_wp2_with fail
  have hB := Below.refl w.heap.size w
  refine wp_region_planT 15 (fun w' => w'.cell? ⟨wb, 0, none⟩ = some (.complex .f64 z1 z2) ∧ w'.frozen? ⟨wb, 0, none⟩ = false ∧ w'.cell? ⟨wb, 1, none⟩ = some (.complex .f64 t1 t2) ∧ w'.frozen? ⟨wb, 1, none⟩ = false ∧ w'.cell? ⟨wb, 2, none⟩ = some (.int .u8 b) ∧ w'.frozen? ⟨wb, 2, none⟩ = false ∧ Below w.heap.size w w') (by kernel_rfl) (by kernel_rfl) (by kernel_rfl) (by kernel_rfl) ?_ ?_
  · (try dsimp only)
    refine ⟨?_, ?_, ?_, ?_, ?_, ?_, ?_⟩ <;> first | (go_simp; done) | (simp [*]; done) | go_grown
  (try simp only [List.append_eq, List.cons_append, List.nil_append, List.toList_toArray, List.take_succ_cons, List.take_zero, List.drop_succ_cons, List.drop_zero])
  repeat (first
    | (refine Plan.val (v := ?_) ?_ ?_ ?_; rotate_left; (· rfl); (· (intro W hSw; (try dsimp only at hSw); go_simp; all_goals (first | (with_reducible rfl) | (constructor <;> (with_reducible rfl)) | (rw [if_neg (by omega)]; done) | (rw [if_neg (by omega)]; with_reducible rfl)))); (try simp only [Act.put, List.setIfInBounds_toArray, List.set_cons_zero, List.set_cons_succ]))
    | (refine Plan.no ?_ ?_; (· rfl); (try simp only [Act.put, List.setIfInBounds_toArray, List.set_cons_zero, List.set_cons_succ]))
    | (refine Plan.call (v := ?_) (f := ?_) (args := ?_) ?_ ?_ ?_ ?_; rotate_left 3; (· rfl); (· (intro W hSw; (try dsimp only at hSw); go_simp; all_goals (first | (with_reducible rfl) | (constructor <;> (with_reducible rfl)) | (rw [if_neg (by omega)]; done) | (rw [if_neg (by omega)]; with_reducible rfl)))); (· (intro W hSw; (try dsimp only at hSw); first | (go_at_call 125; ((with_reducible refine (HW2.out _).mono ?_); rintro _ wz ⟨rfl, hb⟩; (refine ⟨?_, ?_⟩; (· with_reducible rfl); exact ⟨kc hb hSw.1, kfz hb (klt hSw.1) hSw.2.1, kc hb hSw.2.2.1, kfz hb (klt hSw.2.2.1) hSw.2.2.2.1, kc hb hSw.2.2.2.2.1, kfz hb (klt hSw.2.2.2.2.1) hSw.2.2.2.2.2.1, kb hSw.2.2.2.2.2.2 hb⟩))))); (try simp only [Act.put, List.setIfInBounds_toArray, List.set_cons_zero, List.set_cons_succ])))
  refine Plan.done ?_
  intro u1 T
  (try dsimp only at T)
  obtain ⟨hp_0, fp_0, hp_1, fp_1, hp_2, fp_2, hB⟩ := T
  have hsz := hB.size
  have hlp := klt hp_0
  obtain ⟨hnp0, hnp1, hkp1, hnp2, hkp2⟩ := ap0 hlp
  have HF1 := Lib.hid (Fr.ofBelow (F := fun k => k = wb) hB)
  go_wp2
  go_end0
  exact ⟨rfl, HEND.out _ _ _ _ _ ⟨hp_0, hp_1, hp_2, fp_0, fp_1, fp_2⟩, HF1.out.setCell _ _ (fun _ => rfl)⟩
set_option maxRecDepth 100000 in
set_option maxHeartbeats 8000000 in
theorem wwrite_roll (wb : Nat) (R : Wh) (hR : R.May) (v : Int) (hv : 0 ≤ v ∧ v ≤ 255) (w : World) (h : Pw wb R w) :
    Calls Tryz.prog 106 #[.pointer (some ⟨wb, 0, none⟩), .int .i64 0, .agg #[.int .u8 v, .int .u8 0]] w (WrEnd wb R 0 v 0 w) := by
  obtain ⟨hq4, hn⟩ := quarter_may hv
  have hQ := turnQ_may hR.q hv
  have HI := Lib.hid (fun W => isreg_c 0 W)
  rw [show (decide ((0 : Int) ≤ 0) && decide ((0 : Int) ≤ 2)) = true from by decide] at HI
  obtain ⟨c0, c1, c2, f⟩ := h
  have f0 := f 0 (by omega)
  have f1 := f 1 (by omega)
  have f2 := f 2 (by omega)
  have hlt := klt c0
  have HT := Lib.hid (fun W P b hW => turn_p wb P R.q (v.tmod 4) b hR.q hq4 W hW)
  have HL := Lib.hid (fun W q b hW => roll_p wb R.x R.y q (v.tdiv 4) b hR.x hR.y hn W hW)
  have HC := Lib.hid (show Cw wb (cV R.x R.y) (cV (waysX R.q) (waysY R.q)) R.b w from ⟨c0, c1, c2, f0, f1, f2⟩)
  have HE : WrEnd wb R 0 v 0 w = fun e w' => e = .returned (.tuple #[.int .i64 0, .int .i64 0]) ∧ Pw wb (rollW R v) w' ∧ Fr (fun k => k = wb) w w' := by
    funext e w'
    have e1 : wrE 0 0 = (0, 0) := by decide
    have e2 : wrS R 0 v 0 = rollW R v := by unfold wrS; rw [if_pos ⟨rfl, rfl⟩]
    unfold WrEnd
    rw [e1, e2]
  rw [HE]
  clear HE
  unfold rollW
  unfold turnQ at *
  obtain ⟨m, hm⟩ : ∃ m, v.tmod 4 = m := ⟨_, rfl⟩
  obtain ⟨n, hnn⟩ : ∃ n, v.tdiv 4 = n := ⟨_, rfl⟩
  rw [hm] at hq4 hQ HT ⊢
  rw [hnn] at hn HL ⊢
  obtain ⟨Q, hQe⟩ : ∃ Q, (R.q + m).tmod 4 = Q := ⟨_, rfl⟩
  rw [hQe] at HT ⊢
  have HEND := Lib.hid (fun u (a : Cw wb (cV (backI (R.x + n * waysX Q)) (backI (R.y + n * waysY Q))) (cV (waysX Q) (waysY Q)) v u) =>
    (show Pw wb ⟨backI (R.x + n * waysX Q), backI (R.y + n * waysY Q), Q, v⟩ u from ⟨a.c0, a.c1, a.c2, fun i hi => match i, hi with | 0, _ => a.f0 | 1, _ => a.f1 | 2, _ => a.f2⟩))
  have w1 : IntKind.u8.wrap m = m := by rcases way_cases hq4 with rfl | rfl | rfl | rfl <;> rfl
  have w2 : IntKind.u8.wrap n = n := IntWalk.u8_in _ (by omega)
  clear f hQ hQe hv hR hq4 hn c0 c1 c2 f0 f1 f2
  go_enter Tryz.func106, Tryz.ntmps106
  go_wp2_with fail
  have hF0 := (Fr.refl (fun k => k = wb) w).alloc (.cells #[.int .u8 v, .int .u8 0] 49)
  have hc0 := HC.out.below (show Below w.heap.size w (w.alloc (.cells #[.int .u8 v, .int .u8 0] 49)) from by go_grown)
  refine (HI.out _).mono ?_
  rintro _ u ⟨rfl, hb⟩
  have k0 : u.cell? ⟨w.heap.size, 0, none⟩ = some (.int .u8 v) := by rw [(bcell hb).1 _ _ (by simp)]; go_simp; first | done | rfl
  have k1 : u.cell? ⟨w.heap.size, 1, none⟩ = some (.int .u8 0) := by rw [(bcell hb).1 _ _ (by simp)]; go_simp; first | done | rfl
  have HC1 := Lib.hid (hc0.below hb)
  have HF1 := Lib.hid (hF0.trans (Fr.ofBelow (F := fun _ => False) hb) (fun _ _ f => f.elim))
  have l0 := klt k0
  have c2 := HC1.out.c2
  have f2 := HC1.out.f2
  have hl2 := klt c2
  clear hF0 hc0 hb
  go_wp2_with fail
  have HC2 := Lib.hid (HC1.out.set2 (b' := v))
  have HF2 := Lib.hid (HF1.out.setCell ⟨wb, 2, none⟩ (.int .u8 v) (fun _ => rfl))
  have k2 : (u.setCell ⟨wb, 2, none⟩ (.int .u8 v)).cell? ⟨w.heap.size, 0, none⟩ = some (.int .u8 v) := by go_simp; first | done | rfl
  obtain ⟨u2, hu2⟩ : ∃ W, W = u.setCell ⟨wb, 2, none⟩ (.int .u8 v) := ⟨_, rfl⟩
  rw [← hu2] at HC2 HF2 k2 ⊢
  clear hu2 c2 f2 hl2 k0 k1 l0
  refine (HT.out _ _ _ HC2.out).mono ?_
  rintro _ u3 ⟨rfl, hc3, hf3⟩
  have HC3 := Lib.hid hc3
  have HF3 := Lib.hid (HF2.out.trans hf3 (fun _ _ f => f))
  have k3 : u3.cell? ⟨w.heap.size, 0, none⟩ = some (.int .u8 v) := hf3.cell k2 (by omega)
  have l3 := klt k3
  clear hc3 hf3 k2
  go_wp2_with fail
  refine (HL.out _ _ _ HC3.out).mono ?_
  rintro _ u4 ⟨rfl, hc4, hf4⟩
  have HC4 := Lib.hid hc4
  have HF4 := Lib.hid (HF3.out.trans hf4 (fun _ _ f => f))
  clear hc4 hf4 k3 l3
  go_wp2
  go_ret2
  exact ⟨rfl, HEND.out _ HC4.out, HF4.out⟩
theorem wwrite_c (wb : Nat) (R : Wh) (hR : R.May) (reg v t : Int) (hv : 0 ≤ v ∧ v ≤ 255) (w : World) (h : Pw wb R w) :
    Calls Tryz.prog 106 #[.pointer (some ⟨wb, 0, none⟩), .int .i64 reg, .agg #[.int .u8 v, .int .u8 t]] w (WrEnd wb R reg v t w) := by
  by_cases hn : reg = 0 ∧ t = 0
  · obtain ⟨rfl, rfl⟩ := hn
    exact wwrite_roll wb R hR v hv w h
  · exact wwrite_no wb R reg v t hn w h
end Go.Proofs.YtcnejgilmciljaaGreatDoor
