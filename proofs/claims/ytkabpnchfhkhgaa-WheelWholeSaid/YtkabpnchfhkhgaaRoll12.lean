/-
  The program's Write: it turns, and rolls.
-/
import Derived.Test.YtkabpnchfhkhgaaWrite12
import Derived.Test.YtkabpnchfhkhgaaPlanX
set_option linter.unusedSimpArgs false
set_option linter.unusedVariables false
namespace Go.Proofs.Ytkabpnchfhkhgaa
open Go.RowKit Go.PlainAid

theorem quarter_at (m : Int) (h : 0 ≤ m ∧ m ≤ 3) : cV (waysX m) (waysY m) = (if m = 0 then .complex .f64 4607182418800017408 0 else if m = 1 then .complex .f64 0 4607182418800017408 else if m = 2 then .complex .f64 13830554455654793216 0 else .complex .f64 0 13830554455654793216) := by
  unfold cV
  rcases way_cases h with rfl | rfl | rfl | rfl
  · rw [show waysX 0 = 1 from rfl, show waysY 0 = 0 from rfl, zF_one, zF_zero]; rfl
  · rw [show waysX 1 = 0 from rfl, show waysY 1 = 1 from rfl, zF_one, zF_zero]; rfl
  · rw [show waysX 2 = -1 from rfl, show waysY 2 = 0 from rfl, zF_neg1, zF_zero]; rfl
  · rw [show waysX 3 = 0 from rfl, show waysY 3 = -1 from rfl, zF_neg1, zF_zero]; rfl
theorem cV_form (x y : Int) : ∃ a b, cV x y = .complex .f64 a b := ⟨_, _, rfl⟩
/-- A wheel's cells, as they stand. -/
structure Cw (wb : Nat) (p q : Value) (b : Int) (w : World) : Prop where
  c0 : w.cell? ⟨wb, 0, none⟩ = some p
  c1 : w.cell? ⟨wb, 1, none⟩ = some q
  c2 : w.cell? ⟨wb, 2, none⟩ = some (.int .u8 b)
  f0 : w.frozen? ⟨wb, 0, none⟩ = false
  f1 : w.frozen? ⟨wb, 1, none⟩ = false
  f2 : w.frozen? ⟨wb, 2, none⟩ = false
theorem Cw.set1 {wb : Nat} {p q q' : Value} {b : Int} {w : World} (h : Cw wb p q b w) : Cw wb p q' b (w.setCell ⟨wb, 1, none⟩ q') := by
  obtain ⟨c0, c1, c2, f0, f1, f2⟩ := h
  have hl := klt c0
  exact ⟨by go_simp, by go_simp, by go_simp, by go_simp, by go_simp, by go_simp⟩
theorem Cw.set0 {wb : Nat} {p p' q : Value} {b : Int} {w : World} (h : Cw wb p q b w) : Cw wb p' q b (w.setCell ⟨wb, 0, none⟩ p') := by
  obtain ⟨c0, c1, c2, f0, f1, f2⟩ := h
  have hl := klt c0
  exact ⟨by go_simp, by go_simp, by go_simp, by go_simp, by go_simp, by go_simp⟩
theorem Cw.set2 {wb : Nat} {p q : Value} {b b' : Int} {w : World} (h : Cw wb p q b w) : Cw wb p q b' (w.setCell ⟨wb, 2, none⟩ (.int .u8 b')) := by
  obtain ⟨c0, c1, c2, f0, f1, f2⟩ := h
  have hl := klt c0
  exact ⟨by go_simp, by go_simp, by go_simp, by go_simp, by go_simp, by go_simp⟩
theorem Cw.below {wb : Nat} {p q : Value} {b : Int} {w u : World} (h : Cw wb p q b w) (hb : Below w.heap.size w u) : Cw wb p q b u := by
  have hF := Fr.ofBelow (F := fun _ => False) hb
  exact ⟨hF.cell h.c0 id, hF.cell h.c1 id, hF.cell h.c2 id, hF.frozen (klt h.c0) h.f0 id, hF.frozen (klt h.c0) h.f1 id, hF.frozen (klt h.c0) h.f2 id⟩
set_option maxRecDepth 100000 in
set_option maxHeartbeats 8000000 in
theorem turn_p (wb : Nat) (P : Value) (q m b : Int) (hq : 0 ≤ q ∧ q ≤ 3) (hm : 0 ≤ m ∧ m ≤ 3) (w : World) (h : Cw wb P (cV (waysX q) (waysY q)) b w) :
    Calls Try.prog 21 #[.pointer (some ⟨wb, 0, none⟩), .int .u8 m] w fun e w' => e = .returned (.tuple #[]) ∧ Cw wb P (cV (waysX ((q + m).tmod 4)) (waysY ((q + m).tmod 4))) b w' ∧ Fr (fun k => k = wb) w w' := by
  obtain ⟨A, B, hmul, HW⟩ := turn_c hq hm
  have HW1 := Lib.hid HW
  have hqm := quarter_at m hm
  have hst := store_cplx Try.prog
  have HEND := Lib.hid (fun (u : World) (p q q' : Value) (b : Int) => @Cw.set1 wb p q q' b u)
  obtain ⟨y1, y2, hy⟩ := cV_form (waysX ((q + m).tmod 4)) (waysY ((q + m).tmod 4))
  obtain ⟨t1, t2, ht⟩ := cV_form (waysX q) (waysY q)
  obtain ⟨m1, m2, hmm⟩ := cV_form (waysX m) (waysY m)
  rw [hy] at HW1 ⊢
  rw [ht] at hmul h
  rw [hmm] at hmul hqm
  have w1 : IntKind.u8.wrap m = m := by rcases way_cases hm with rfl | rfl | rfl | rfl <;> rfl
  clear hy ht hmm HW hq
  have hcase := way_cases hm
  clear hm
  obtain ⟨h0, h1, h2, g0, g1, g2⟩ := h
  have hlt := klt h0
  obtain ⟨q1, q2, q3, q4, q5⟩ := ap0 hlt
  rcases hcase with rfl | rfl | rfl | rfl
  all_goals
    simp only [if_true, if_false, Int.reduceEq, reduceIte] at hqm
    injection hqm with _ hq1 hq2
    subst hq1
    subst hq2
    go_enter Try.func21, Try.ntmps21
    go_wp2_with fail
    have hF0 := (Fr.refl (fun k => k = wb) w).alloc (.cells #[.complex .f64 4607182418800017408 0, .complex .f64 0 4607182418800017408, .complex .f64 13830554455654793216 0, .complex .f64 0 13830554455654793216] 62)
    obtain ⟨u0, hu0⟩ : ∃ W, W = w.alloc (.cells #[.complex .f64 4607182418800017408 0, .complex .f64 0 4607182418800017408, .complex .f64 13830554455654793216 0, .complex .f64 0 13830554455654793216] 62) := ⟨_, rfl⟩
    rw [← hu0] at hF0
    have HF0 := Lib.hid hF0
    have a0 : u0.cell? ⟨w.heap.size, 0, none⟩ = some (.complex .f64 4607182418800017408 0) := by rw [hu0]; go_simp; first | done | rfl
    have a1 : u0.cell? ⟨w.heap.size, 1, none⟩ = some (.complex .f64 0 4607182418800017408) := by rw [hu0]; go_simp; first | done | rfl
    have a2 : u0.cell? ⟨w.heap.size, 2, none⟩ = some (.complex .f64 13830554455654793216 0) := by rw [hu0]; go_simp; first | done | rfl
    have a3 : u0.cell? ⟨w.heap.size, 3, none⟩ = some (.complex .f64 0 13830554455654793216) := by rw [hu0]; go_simp; first | done | rfl
    have c0 : u0.cell? ⟨wb, 0, none⟩ = some P := by rw [hu0]; go_simp; first | done | rfl
    have c1 : u0.cell? ⟨wb, 1, none⟩ = some (.complex .f64 t1 t2) := by rw [hu0]; go_simp; first | done | rfl
    have c2 : u0.cell? ⟨wb, 2, none⟩ = some (.int .u8 b) := by rw [hu0]; go_simp; first | done | rfl
    have e0 : u0.frozen? ⟨wb, 0, none⟩ = false := by rw [hu0]; go_simp
    have e1 : u0.frozen? ⟨wb, 1, none⟩ = false := by rw [hu0]; go_simp
    have e2 : u0.frozen? ⟨wb, 2, none⟩ = false := by rw [hu0]; go_simp
    rw [← hu0]
    clear hu0 hF0 h0 h1 h2 g0 g1 g2
    have hp_0 := c0
    have hp_1 := c1
    have hp_2 := c2
    have fp_0 := e0
    have fp_1 := e1
    have fp_2 := e2
    have ha_0 := a0
    have ha_1 := a1
    have ha_2 := a2
    have ha_3 := a3
    have hl1 := klt c0
    have hl2 := klt a0
    have hB := Below.refl u0.heap.size u0
    refine wp_region_planT 10 (fun w' => w'.cell? ⟨wb, 0, none⟩ = some (P) ∧ w'.frozen? ⟨wb, 0, none⟩ = false ∧ w'.cell? ⟨wb, 1, none⟩ = some (.complex .f64 t1 t2) ∧ w'.frozen? ⟨wb, 1, none⟩ = false ∧ w'.cell? ⟨wb, 2, none⟩ = some (.int .u8 b) ∧ w'.frozen? ⟨wb, 2, none⟩ = false ∧ w'.cell? ⟨w.heap.size, 0, none⟩ = some (.complex .f64 4607182418800017408 0) ∧ w'.cell? ⟨w.heap.size, 1, none⟩ = some (.complex .f64 0 4607182418800017408) ∧ w'.cell? ⟨w.heap.size, 2, none⟩ = some (.complex .f64 13830554455654793216 0) ∧ w'.cell? ⟨w.heap.size, 3, none⟩ = some (.complex .f64 0 13830554455654793216) ∧ Below u0.heap.size u0 w') (by kernel_rfl) (by kernel_rfl) (by kernel_rfl) (by kernel_rfl) ?_ ?_
    · (try dsimp only)
      refine ⟨?_, ?_, ?_, ?_, ?_, ?_, ?_, ?_, ?_, ?_, ?_⟩ <;> first | (go_simp; done) | (simp [*]; done) | go_grown
    (try simp only [List.append_eq, List.cons_append, List.nil_append, List.toList_toArray, List.take_succ_cons, List.take_zero, List.drop_succ_cons, List.drop_zero])
    repeat (first
      | (refine Plan.val (v := ?_) ?_ ?_ ?_; rotate_left; (· rfl); (· (intro W hSw; (try dsimp only at hSw); go_simp; all_goals (first | (with_reducible rfl) | (constructor <;> (with_reducible rfl)) | (rw [if_neg (by omega)]; done) | (rw [if_neg (by omega)]; with_reducible rfl)))); (try simp only [Act.put, List.setIfInBounds_toArray, List.set_cons_zero, List.set_cons_succ]))
      | (refine Plan.no ?_ ?_; (· rfl); (try simp only [Act.put, List.setIfInBounds_toArray, List.set_cons_zero, List.set_cons_succ]))
      | (refine Plan.call (v := ?_) (f := ?_) (args := ?_) ?_ ?_ ?_ ?_; rotate_left 3; (· rfl); (· (intro W hSw; (try dsimp only at hSw); go_simp; all_goals (first | (with_reducible rfl) | (constructor <;> (with_reducible rfl)) | (rw [if_neg (by omega)]; done) | (rw [if_neg (by omega)]; with_reducible rfl)))); (· (intro W hSw; (try dsimp only at hSw); first | (go_at_call 16; ((with_reducible refine (HW1.out _).mono ?_); rintro _ wz ⟨rfl, hb⟩; (refine ⟨?_, ?_⟩; (· with_reducible rfl); exact ⟨kc hb hSw.1, kfz hb (klt hSw.1) hSw.2.1, kc hb hSw.2.2.1, kfz hb (klt hSw.2.2.1) hSw.2.2.2.1, kc hb hSw.2.2.2.2.1, kfz hb (klt hSw.2.2.2.2.1) hSw.2.2.2.2.2.1, kc hb hSw.2.2.2.2.2.2.1, kc hb hSw.2.2.2.2.2.2.2.1, kc hb hSw.2.2.2.2.2.2.2.2.1, kc hb hSw.2.2.2.2.2.2.2.2.2.1, kb hSw.2.2.2.2.2.2.2.2.2.2 hb⟩))))); (try simp only [Act.put, List.setIfInBounds_toArray, List.set_cons_zero, List.set_cons_succ])))
    refine Plan.done ?_
    intro u1 T
    (try dsimp only at T)
    obtain ⟨hp_0, fp_0, hp_1, fp_1, hp_2, fp_2, ha_0, ha_1, ha_2, ha_3, hB⟩ := T
    have hsz := hB.size
    have hlp := klt hp_0
    have hla := klt ha_0
    obtain ⟨hnp0, hnp1, hkp1, hnp2, hkp2⟩ := ap0 hlp
    obtain ⟨hna0, hna1, hka1, hna2, hka2⟩ := ap0 hla
    have HF1 := Lib.hid ((HF0.out.trans (Fr.ofBelow (F := fun _ => False) hB) (fun _ _ f => f.elim)))
    go_wp2
    go_end0
    exact ⟨rfl, HEND.out _ _ _ _ _ ⟨hp_0, hp_1, hp_2, fp_0, fp_1, fp_2⟩, HF1.out.setCell _ _ (fun _ => rfl)⟩
set_option maxRecDepth 100000 in
set_option maxHeartbeats 8000000 in
theorem roll_p (wb : Nat) (x y q n b : Int) (hx : -128 ≤ x ∧ x ≤ 127) (hy : -128 ≤ y ∧ y ≤ 127) (hn : 0 ≤ n ∧ n ≤ 63) (w : World) (h : Cw wb (cV x y) (cV (waysX q) (waysY q)) b w) :
    Calls Try.prog 22 #[.pointer (some ⟨wb, 0, none⟩), .int .u8 n] w fun e w' => e = .returned (.tuple #[]) ∧ Cw wb (cV (backI (x + n * waysX q)) (backI (y + n * waysY q))) (cV (waysX q) (waysY q)) b w' ∧ Fr (fun k => k = wb) w w' := by
  obtain ⟨A2, B2, C2, D2, hmul2, hadd2, HW⟩ := roll_c (q := q) hx hy hn
  have HW2 := Lib.hid HW
  have hcv := conv_u8 n
  have hst := store_cplx Try.prog
  have HEND := Lib.hid (fun (u : World) (p p' q : Value) (b : Int) => @Cw.set0 wb p p' q b u)
  obtain ⟨x1, x2, hx⟩ := cV_form (backI (x + n * waysX q)) (backI (y + n * waysY q))
  obtain ⟨z1, z2, hz⟩ := cV_form x y
  obtain ⟨t1, t2, ht⟩ := cV_form (waysX q) (waysY q)
  rw [hx] at HW2 ⊢
  rw [hz] at hadd2 h
  rw [ht] at hmul2 h ⊢
  have w2 : IntKind.u8.wrap n = n := IntWalk.u8_in _ (by omega)
  generalize zF n = N at *
  clear hx hz ht HW hn
  obtain ⟨hp_0, hp_1, hp_2, fp_0, fp_1, fp_2⟩ := h
  have hl1 := klt hp_0
  go_enter Try.func22, Try.ntmps22
  go_wp2_with fail
  have hB := Below.refl w.heap.size w
  refine wp_region_planT 15 (fun w' => w'.cell? ⟨wb, 0, none⟩ = some (.complex .f64 z1 z2) ∧ w'.frozen? ⟨wb, 0, none⟩ = false ∧ w'.cell? ⟨wb, 1, none⟩ = some (.complex .f64 t1 t2) ∧ w'.frozen? ⟨wb, 1, none⟩ = false ∧ w'.cell? ⟨wb, 2, none⟩ = some (.int .u8 b) ∧ w'.frozen? ⟨wb, 2, none⟩ = false ∧ Below w.heap.size w w') (by kernel_rfl) (by kernel_rfl) (by kernel_rfl) (by kernel_rfl) ?_ ?_
  · (try dsimp only)
    refine ⟨?_, ?_, ?_, ?_, ?_, ?_, ?_⟩ <;> first | (go_simp; done) | (simp [*]; done) | go_grown
  (try simp only [List.append_eq, List.cons_append, List.nil_append, List.toList_toArray, List.take_succ_cons, List.take_zero, List.drop_succ_cons, List.drop_zero])
  repeat (first
    | (refine Plan.val (v := ?_) ?_ ?_ ?_; rotate_left; (· rfl); (· (intro W hSw; (try dsimp only at hSw); go_simp; all_goals (first | (with_reducible rfl) | (constructor <;> (with_reducible rfl)) | (rw [if_neg (by omega)]; done) | (rw [if_neg (by omega)]; with_reducible rfl)))); (try simp only [Act.put, List.setIfInBounds_toArray, List.set_cons_zero, List.set_cons_succ]))
    | (refine Plan.no ?_ ?_; (· rfl); (try simp only [Act.put, List.setIfInBounds_toArray, List.set_cons_zero, List.set_cons_succ]))
    | (refine Plan.call (v := ?_) (f := ?_) (args := ?_) ?_ ?_ ?_ ?_; rotate_left 3; (· rfl); (· (intro W hSw; (try dsimp only at hSw); go_simp; all_goals (first | (with_reducible rfl) | (constructor <;> (with_reducible rfl)) | (rw [if_neg (by omega)]; done) | (rw [if_neg (by omega)]; with_reducible rfl)))); (· (intro W hSw; (try dsimp only at hSw); first | (go_at_call 16; ((with_reducible refine (HW2.out _).mono ?_); rintro _ wz ⟨rfl, hb⟩; (refine ⟨?_, ?_⟩; (· with_reducible rfl); exact ⟨kc hb hSw.1, kfz hb (klt hSw.1) hSw.2.1, kc hb hSw.2.2.1, kfz hb (klt hSw.2.2.1) hSw.2.2.2.1, kc hb hSw.2.2.2.2.1, kfz hb (klt hSw.2.2.2.2.1) hSw.2.2.2.2.2.1, kb hSw.2.2.2.2.2.2 hb⟩))))); (try simp only [Act.put, List.setIfInBounds_toArray, List.set_cons_zero, List.set_cons_succ])))
  refine Plan.done ?_
  intro u1 T
  (try dsimp only at T)
  obtain ⟨hp_0, fp_0, hp_1, fp_1, hp_2, fp_2, hB⟩ := T
  have hsz := hB.size
  have hlp := klt hp_0
  obtain ⟨hnp0, hnp1, hkp1, hnp2, hkp2⟩ := ap0 hlp
  have HF1 := Lib.hid (Fr.ofBelow (F := fun k => k = wb) hB)
  go_wp2
  go_end0
  exact ⟨rfl, HEND.out _ _ _ _ _ ⟨hp_0, hp_1, hp_2, fp_0, fp_1, fp_2⟩, HF1.out.setCell _ _ (fun _ => rfl)⟩
set_option maxRecDepth 100000 in
set_option maxHeartbeats 8000000 in
theorem wwrite_roll (wb : Nat) (R : Wh) (hR : R.May) (v : Int) (hv : 0 ≤ v ∧ v ≤ 255) (w : World) (h : Pw wb R w) :
    Calls Try.prog 11 #[.pointer (some ⟨wb, 0, none⟩), .int .i64 0, .agg #[.int .u8 v, .int .u8 0]] w (WrEnd wb R 0 v 0 w) := by
  obtain ⟨hq4, hn⟩ := quarter_may hv
  have hQ := turnQ_may hR.q hv
  have HI := Lib.hid (fun W => isreg_c 0 W)
  rw [show (decide ((0 : Int) ≤ 0) && decide ((0 : Int) ≤ 2)) = true from by decide] at HI
  obtain ⟨c0, c1, c2, f⟩ := h
  have f0 := f 0 (by omega)
  have f1 := f 1 (by omega)
  have f2 := f 2 (by omega)
  have hlt := klt c0
  have HT := Lib.hid (fun W P b hW => turn_p wb P R.q (v.tmod 4) b hR.q hq4 W hW)
  have HL := Lib.hid (fun W q b hW => roll_p wb R.x R.y q (v.tdiv 4) b hR.x hR.y hn W hW)
  have HC := Lib.hid (show Cw wb (cV R.x R.y) (cV (waysX R.q) (waysY R.q)) R.b w from ⟨c0, c1, c2, f0, f1, f2⟩)
  have HE : WrEnd wb R 0 v 0 w = fun e w' => e = .returned (.tuple #[.int .i64 0, .int .i64 0]) ∧ Pw wb (rollW R v) w' ∧ Fr (fun k => k = wb) w w' := by
    funext e w'
    have e1 : wrE 0 0 = (0, 0) := by decide
    have e2 : wrS R 0 v 0 = rollW R v := by unfold wrS; rw [if_pos ⟨rfl, rfl⟩]
    unfold WrEnd
    rw [e1, e2]
  rw [HE]
  clear HE
  unfold rollW
  unfold turnQ at *
  obtain ⟨m, hm⟩ : ∃ m, v.tmod 4 = m := ⟨_, rfl⟩
  obtain ⟨n, hnn⟩ : ∃ n, v.tdiv 4 = n := ⟨_, rfl⟩
  rw [hm] at hq4 hQ HT ⊢
  rw [hnn] at hn HL ⊢
  obtain ⟨Q, hQe⟩ : ∃ Q, (R.q + m).tmod 4 = Q := ⟨_, rfl⟩
  rw [hQe] at HT ⊢
  have HEND := Lib.hid (fun u (a : Cw wb (cV (backI (R.x + n * waysX Q)) (backI (R.y + n * waysY Q))) (cV (waysX Q) (waysY Q)) v u) =>
    (show Pw wb ⟨backI (R.x + n * waysX Q), backI (R.y + n * waysY Q), Q, v⟩ u from ⟨a.c0, a.c1, a.c2, fun i hi => match i, hi with | 0, _ => a.f0 | 1, _ => a.f1 | 2, _ => a.f2⟩))
  have w1 : IntKind.u8.wrap m = m := by rcases way_cases hq4 with rfl | rfl | rfl | rfl <;> rfl
  have w2 : IntKind.u8.wrap n = n := IntWalk.u8_in _ (by omega)
  clear f hQ hQe hv hR hq4 hn c0 c1 c2 f0 f1 f2
  go_enter Try.func11, Try.ntmps11
  go_wp2_with fail
  have hF0 := (Fr.refl (fun k => k = wb) w).alloc (.cells #[.int .u8 v, .int .u8 0] 34)
  have hc0 := HC.out.below (show Below w.heap.size w (w.alloc (.cells #[.int .u8 v, .int .u8 0] 34)) from by go_grown)
  refine (HI.out _).mono ?_
  rintro _ u ⟨rfl, hb⟩
  have k0 : u.cell? ⟨w.heap.size, 0, none⟩ = some (.int .u8 v) := by rw [(bcell hb).1 _ _ (by simp)]; go_simp; first | done | rfl
  have k1 : u.cell? ⟨w.heap.size, 1, none⟩ = some (.int .u8 0) := by rw [(bcell hb).1 _ _ (by simp)]; go_simp; first | done | rfl
  have HC1 := Lib.hid (hc0.below hb)
  have HF1 := Lib.hid (hF0.trans (Fr.ofBelow (F := fun _ => False) hb) (fun _ _ f => f.elim))
  have l0 := klt k0
  have c2 := HC1.out.c2
  have f2 := HC1.out.f2
  have hl2 := klt c2
  clear hF0 hc0 hb
  go_wp2_with fail
  have HC2 := Lib.hid (HC1.out.set2 (b' := v))
  have HF2 := Lib.hid (HF1.out.setCell ⟨wb, 2, none⟩ (.int .u8 v) (fun _ => rfl))
  have k2 : (u.setCell ⟨wb, 2, none⟩ (.int .u8 v)).cell? ⟨w.heap.size, 0, none⟩ = some (.int .u8 v) := by go_simp; first | done | rfl
  obtain ⟨u2, hu2⟩ : ∃ W, W = u.setCell ⟨wb, 2, none⟩ (.int .u8 v) := ⟨_, rfl⟩
  rw [← hu2] at HC2 HF2 k2 ⊢
  clear hu2 c2 f2 hl2 k0 k1 l0
  refine (HT.out _ _ _ HC2.out).mono ?_
  rintro _ u3 ⟨rfl, hc3, hf3⟩
  have HC3 := Lib.hid hc3
  have HF3 := Lib.hid (HF2.out.trans hf3 (fun _ _ f => f))
  have k3 : u3.cell? ⟨w.heap.size, 0, none⟩ = some (.int .u8 v) := hf3.cell k2 (by omega)
  have l3 := klt k3
  clear hc3 hf3 k2
  go_wp2_with fail
  refine (HL.out _ _ _ HC3.out).mono ?_
  rintro _ u4 ⟨rfl, hc4, hf4⟩
  have HC4 := Lib.hid hc4
  have HF4 := Lib.hid (HF3.out.trans hf4 (fun _ _ f => f))
  clear hc4 hf4 k3 l3
  go_wp2
  go_ret2
  exact ⟨rfl, HEND.out _ HC4.out, HF4.out⟩
theorem wwrite_c (wb : Nat) (R : Wh) (hR : R.May) (reg v t : Int) (hv : 0 ≤ v ∧ v ≤ 255) (w : World) (h : Pw wb R w) :
    Calls Try.prog 11 #[.pointer (some ⟨wb, 0, none⟩), .int .i64 reg, .agg #[.int .u8 v, .int .u8 t]] w (WrEnd wb R reg v t w) := by
  by_cases hn : reg = 0 ∧ t = 0
  · obtain ⟨rfl, rfl⟩ := hn
    exact wwrite_roll wb R hR v hv w h
  · exact wwrite_no wb R reg v t hn w h
end Go.Proofs.Ytkabpnchfhkhgaa
