/-
  OpcodeAll returns true: the walk.
-/
import Derived.Test.YtnigcmicimdphaaByte
import Derived.Test.YtnigcmicimdphaaAwake4
set_option linter.unusedSimpArgs false
set_option linter.unusedVariables false
namespace Go.Proofs.Ytnigcmicimdphaa
open Go.RowKit Go.PlainAid Go.Shelf
attribute [local go_sem] Oper.semAt_some

/-- Whether bytes rise, and the last one. -/
def stB (l : List OpB) : Bool × Int := l.foldl (fun s x => (s.1 && decide (s.2 < (x.1 : Int)), (x.1 : Int))) (true, -1)
theorem stB_snoc (l : List OpB) (x : OpB) : stB (l ++ [x]) = ((stB l).1 && decide ((stB l).2 < (x.1 : Int)), (x.1 : Int)) := by unfold stB; rw [List.foldl_append]; rfl
theorem stB_up : ∀ k, (stB (upB k)).1 = true ∧ (stB (upB k)).2 < k
  | 0 => ⟨rfl, by show (-1 : Int) < ((0 : Nat) : Int); decide⟩
  | k + 1 => by
    obtain ⟨h1, h2⟩ := stB_up k
    by_cases hh : k < 256 ∧ isOp k = true
    · rw [upB_yes k hh, stB_snoc]
      exact ⟨by simp [h1, h2], by show (k : Int) < ((k + 1 : Nat) : Int); omega⟩
    · have e : upB (k + 1) = upB k := by
        conv => lhs; unfold upB
        rw [dif_neg hh]
      rw [e]
      exact ⟨h1, by omega⟩
theorem up_len : (upB 256).length = 151 := by decide +kernel
theorem run_op_neq (a : ByteArray) (b c : Int) (w : World) : (binOp .neq 34 (.agg #[.string a, .int .i64 b, .int .i64 c]) (.agg #[.string a, .int .i64 b, .int .i64 c])).run Try.prog w = .ok (.bool false) w := by
  go_simp
theorem run_func_nil (w : World) : (binOp .eql 31 (.func (.func 15) #[] #[]) .nilFunc).run Try.prog w = .ok (.bool false) w := by kernel_rfl
/-- What the law's own variables hold: where to stop, the result, the last byte, how many. -/
def AE (B : Nat) (p : Int) (t n : Int) (W : World) : Prop :=
  W.cell? ⟨B, 0, none⟩ = some (.int .i64 p) ∧ W.cell? ⟨B + 1, 0, none⟩ = some (.bool false) ∧ W.cell? ⟨B + 1 + 1, 0, none⟩ = some (.int .i64 t) ∧ W.cell? ⟨B + 1 + 1 + 1, 0, none⟩ = some (.int .i64 n) ∧
  W.frozen? ⟨B + 1, 0, none⟩ = false ∧ W.frozen? ⟨B + 1 + 1, 0, none⟩ = false ∧ W.frozen? ⟨B + 1 + 1 + 1, 0, none⟩ = false
theorem AE.own {β : Type} (B : Nat) (p : Int) (f g : β → Int) : Own (fun s W => AE B p (f s) (g s) W) := fun s A C row ⟨h1, h2, h3, h4, g2, g3, g4⟩ hg hr =>
  ⟨cell_kept h1 hg hr, cell_kept h2 hg hr, cell_kept h3 hg hr, cell_kept h4 hg hr, (frozen_kept h2 hg hr).trans g2, (frozen_kept h3 hg hr).trans g3, (frozen_kept h4 hg hr).trans g4⟩
theorem AE.below {B : Nat} {p t n : Int} {W U : World} (h : AE B p t n W) (hb : Below W.heap.size W U) : AE B p t n U := by
  obtain ⟨h1, h2, h3, h4, g2, g3, g4⟩ := h
  exact ⟨kc hb h1, kc hb h2, kc hb h3, kc hb h4, kfz hb (klt h2) g2, kfz hb (klt h3) g3, kfz hb (klt h4) g4⟩
theorem AE.lt {B : Nat} {p t n : Int} {W : World} (h : AE B p t n W) : B + 1 + 1 + 1 < W.heap.size := klt h.2.2.2.1

theorem keeps_below {W u : World} (hb : Below W.heap.size W u) : KeepsOthers W u := ⟨hb.size, fun k o hk _ => (hb.block k (Array.getElem?_eq_some_iff.1 hk).1).trans hk⟩
theorem stB_bad {l : List OpB} {x : OpB} (h : decide ((x.1 : Int) ≤ (stB l).2) = true) : (stB (l ++ [x])).1 = false := by
  have h := of_decide_eq_true h
  rw [stB_snoc]
  show ((stB l).1 && decide ((stB l).2 < (x.1 : Int))) = false
  rw [decide_eq_false (by omega), Bool.and_false]
theorem stB_good {l : List OpB} {x : OpB} (h1 : (stB l).1 = true) (h : decide ((x.1 : Int) ≤ (stB l).2) = false) : (stB (l ++ [x])).1 = true := by
  have h := of_decide_eq_false h
  rw [stB_snoc]
  show ((stB l).1 && decide ((stB l).2 < (x.1 : Int))) = true
  rw [h1, decide_eq_true (by omega)]; rfl
set_option maxRecDepth 100000 in
set_option maxHeartbeats 4000000 in
theorem all_in (p : Int) (w : World) : CallsIn Fence.wide 4 Try.prog 4 #[.int .i64 p] w (LawEnd w) := by
  refine callsIn_of_wp_marks Try.func4 rfl trivial ?_ rfl
  simp only [Try.ntmps4, List.size_toArray, List.length_cons, List.length_nil, Nat.reduceAdd, Nat.reduceSub, Array.replicate_succ, Array.replicate_zero, List.push_toArray, List.append_toArray, List.nil_append, List.cons_append]
  have q0 := run_func_nil
  gi_wp2_with (refine ⟨trivial, ?_⟩; gi_at_call 11; refine (callsIn_wide.2 (all_c _)).mono ?_; rintro _ _ ⟨rfl, rfl⟩)
  have hA0 : AE w.heap.size p (-1) 0 ((((w.alloc (Obj.cells #[Value.int IntKind.i64 p] 3)).alloc (Obj.cells #[Value.bool false] 4)).alloc (Obj.cells #[Value.int IntKind.i64 (-1)] 3)).alloc (Obj.cells #[Value.int IntKind.i64 0] 3)) := by
    refine ⟨?_, ?_, ?_, ?_, ?_, ?_, ?_⟩ <;> go_simp
  have hB0 : Below w.heap.size w ((((w.alloc (Obj.cells #[Value.int IntKind.i64 p] 3)).alloc (Obj.cells #[Value.bool false] 4)).alloc (Obj.cells #[Value.int IntKind.i64 (-1)] 3)).alloc (Obj.cells #[Value.int IntKind.i64 0] 3)) := by go_grown
  generalize (((w.alloc (Obj.cells #[Value.int IntKind.i64 p] 3)).alloc (Obj.cells #[Value.bool false] 4)).alloc (Obj.cells #[Value.int IntKind.i64 (-1)] 3)).alloc (Obj.cells #[Value.int IntKind.i64 0] 3) = W0 at *
  have hlt0 := hA0.lt
  have hsz0 := hB0.size
  refine wpIn_rangeFunc_ownH rfl (by decide) (gf := 15) (lb := #[]) rfl trivial (enters_of Try.func15 (by kernel_rfl) rfl)
    (iter_stops (4 - 1) (by decide) W0) walksK_t walksK_b (Below.refl _ _) (fun _ => rfl)
    (fun pre W => (((stB pre).1 = true ∧ (p < 0 ∨ (pre.length : Int) ≤ p)) ∧ AE w.heap.size p (stB pre).2 pre.length W) ∧ Below w.heap.size w W)
    (fun c pre W => (c = .ret ∧ ∃ r, W.cell? ⟨w.heap.size + 1, 0, none⟩ = some (.bool r) ∧ (r = false → (stB pre).1 = false)) ∧ Below w.heap.size w W)
    (OwnFrom.and (Own.from (fun s A C row hs hg hr => ⟨hs.1, AE.own w.heap.size p (fun pre => (stB pre).2) (fun pre => (pre.length : Int)) s A C row hs.2 hg hr⟩) _) (ownFrom_below (Nat.le_refl _) hsz0))
    (fun c => OwnFrom.and (Own.from (fun s A C row hs hg hr => by obtain ⟨hc, x, h1, h2⟩ := hs; exact ⟨hc, x, cell_kept h1 hg hr, h2⟩) _) (ownFrom_below (Nat.le_refl _) hsz0))
    ⟨⟨⟨rfl, by show p < 0 ∨ (0 : Int) ≤ p; omega⟩, hA0⟩, hB0⟩
    (fun x a' W => ∃ Bx, w.heap.size + 1 + 1 + 1 < Bx ∧ XE Bx x.1 W ∧ a' = { tmps := #[.int .i64 p, .pointer (some ⟨w.heap.size, 0, none⟩), .pointer (some ⟨w.heap.size + 1, 0, none⟩), .func (.func 15) #[] #[], .pointer (some ⟨w.heap.size + 1 + 1, 0, none⟩), .pointer (some ⟨w.heap.size + 1 + 1 + 1, 0, none⟩),
      .int .u8 x.1, .pointer (some ⟨Bx, 0, none⟩), undef, undef, .func (.func 15) #[] #[], .func (.func 15) #[] #[], .bool false, .func (.func 15) #[] #[], .int .u8 x.1, .agg (opA x.1), undef, undef, undef, undef, undef, undef, undef, undef, undef, undef, undef, undef, undef, undef, undef, undef, undef, undef, undef, undef, undef, undef, undef, undef, undef, undef, undef, undef, undef, undef, undef, undef, undef, undef, undef, undef, undef, undef, undef], defers := [] })
    (fun x a' _ A C row hs hg hr => by obtain ⟨Bx, h1, ⟨c1, c2, c3⟩, h3⟩ := hs; exact ⟨Bx, h1, ⟨cell_kept c1 hg (fun r e => (hr r e).2), cell_kept c2 hg (fun r e => (hr r e).2), cell_kept c3 hg (fun r e => (hr r e).2)⟩, h3⟩)
    ?assign ?body ?done ?stop
  case assign =>
    rintro l pre x W K ⟨⟨hf, hc⟩, hB⟩ hK
    have hlt := hc.lt
    have hsz := hB.size
    dsimp only [encB, opA] at hK ⊢
    gi_wp2
    exact hK _ _ ((KeepsOthers.alloc _ _).from _) (KeepsWalks.alloc _ _) ⟨⟨hf, hc.below ((Below.refl _ W).alloc (Nat.le_refl _) _)⟩, hB.alloc hB.size _⟩ ⟨W.heap.size, hlt, ⟨by go_simp, by go_simp, by go_simp⟩, rfl⟩
  case body =>
    rintro l pre x a' W hl ⟨r, hr⟩ ⟨⟨⟨hs1, hs2⟩, hc⟩, hB⟩ ⟨Bx, hBx, ⟨x1, x2, x3⟩, rfl⟩ hlen
    have hlt := hc.lt
    have hltx := klt x1
    have hsz := hB.size
    have hC := Lib.hid hc
    obtain ⟨h1, h2, h3, h4, g2, g3, g4⟩ := hc
    have HO := Lib.hid (fun w => of_yes x.1 x.2.1 x.2.2 w)
    have HG := Lib.hid (fun h => stB_good (l := pre) (x := x) hs1 h)
    have HD := Lib.hid (fun h => stB_bad (l := pre) (x := x) h)
    have HT := Lib.hid (show (stB (pre ++ [x])).2 = (x.1 : Int) from by rw [stB_snoc])
    have HL := Lib.hid (show ((pre ++ [x]).length : Int) = (pre.length : Int) + 1 from by rw [List.length_append]; rfl)
    have HP := Lib.hid hs2
    have w8 : IntKind.i64.wrap ((x.1 : Nat) : Int) = (x.1 : Nat) := IntWalk.i64_in _ (by have := x.2.1; omega)
    have wN : IntKind.i64.wrap ((pre.length : Int) + 1) = (pre.length : Int) + 1 := IntWalk.i64_in _ (by omega)
    have q := run_op_neq ⟨(nm x.1).toArray⟩ (md x.1) (kindP (nm x.1) (md x.1))
    dsimp only [opA] at *
    generalize ByteArray.mk (nm x.1).toArray = X at *
    generalize kindP (nm x.1) (md x.1) = K at *
    generalize md x.1 = M at *
    clear hs1 hs2
    cases e1 : ((pre.length : Int) == p)
    · have HP2 := Lib.hid (show p < 0 ∨ (pre.length : Int) + 1 ≤ p from by
        rcases HP.out with h | h
        · exact .inl h
        · have : (pre.length : Int) ≠ p := by rw [beq_eq_false_iff_ne] at e1; exact e1
          omega)
      cases e2 : decide ((x.1 : Int) ≤ (stB pre).2)
      · have hG := Lib.hid (HG.out e2)
        clear HG HD
        gi_wp2_with fail
        refine ⟨trivial, ?_⟩
        gi_at_call 12
        refine (CallsIn.inRound l (callsIn_wide.2 (HO.out _))).mono ?_
        rintro _ u ⟨rfl, hb0⟩
        have k1 := kc hb0 h1
        have k2 := kc hb0 h2
        have k3 := kc hb0 h3
        have k4 := kc hb0 h4
        have y1 := kc hb0 x1
        have y2 := kc hb0 x2
        have y3 := kc hb0 x3
        have f2 := kfz hb0 (klt h2) g2
        have f3 := kfz hb0 (klt h3) g3
        have f4 := kfz hb0 (klt h4) g4
        have l4 := klt k4
        have lx := klt y1
        have l1 := klt k1
        have l2 := klt k2
        have l3 := klt k3
        have n0 : ¬ (w.heap.size = u.heap.size) := by omega
        have n1 : ¬ (w.heap.size + 1 = u.heap.size) := by omega
        have n2 : ¬ (w.heap.size + 1 + 1 = u.heap.size) := by omega
        have n3 : ¬ (w.heap.size + 1 + 1 + 1 = u.heap.size) := by omega
        have nx : ¬ (Bx = u.heap.size) := by omega
        clear h1 h2 h3 h4 x1 x2 x3 g2 g3 g4
        gi_wp2
        refine ⟨?_, ?_, ⟨⟨hG.out, by rw [HL.out]; exact HP2.out⟩, ?_⟩, ?_⟩
        · exact ((((keeps_below hb0).trans (KeepsOthers.setCell _ _ _)).trans (KeepsOthers.setCell _ _ _)).trans (KeepsOthers.alloc _ _)).from _
        · exact ((((keeps_below hb0).trans (KeepsOthers.setCell _ _ _)).trans (KeepsOthers.setCell _ _ _)).trans (KeepsOthers.alloc _ _)).walks
        · rw [HT.out, HL.out]
          refine ⟨?_, ?_, ?_, ?_, ?_, ?_, ?_⟩ <;> go_simp
        · exact (((hB.trans (hb0.mono hsz)).setCell (p := ⟨w.heap.size + 1 + 1, 0, none⟩) (by simp; omega) _).setCell (p := ⟨w.heap.size + 1 + 1 + 1, 0, none⟩) (by simp; omega) _).alloc (by simp; omega) _
      · have hD := Lib.hid (HD.out e2)
        clear HG HD
        gi_wp2_with fail
        refine ⟨trivial, ?_⟩
        gi_at_call 12
        refine (CallsIn.inRound l (callsIn_wide.2 (HO.out _))).mono ?_
        rintro _ u ⟨rfl, hb0⟩
        have k1 := kc hb0 h1
        have k2 := kc hb0 h2
        have k3 := kc hb0 h3
        have k4 := kc hb0 h4
        have y1 := kc hb0 x1
        have y2 := kc hb0 x2
        have y3 := kc hb0 x3
        have f2 := kfz hb0 (klt h2) g2
        have f3 := kfz hb0 (klt h3) g3
        have f4 := kfz hb0 (klt h4) g4
        have l4 := klt k4
        have lx := klt y1
        have l1 := klt k1
        have l2 := klt k2
        have l3 := klt k3
        have n0 : ¬ (w.heap.size = u.heap.size) := by omega
        have n1 : ¬ (w.heap.size + 1 = u.heap.size) := by omega
        have n2 : ¬ (w.heap.size + 1 + 1 = u.heap.size) := by omega
        have n3 : ¬ (w.heap.size + 1 + 1 + 1 = u.heap.size) := by omega
        have nx : ¬ (Bx = u.heap.size) := by omega
        clear h1 h2 h3 h4 x1 x2 x3 g2 g3 g4
        gi_wp2
        refine ⟨?_, ⟨rfl, false, ?_, fun _ => hD.out⟩, ?_⟩
        · exact (((keeps_below hb0).trans (KeepsOthers.setCell _ _ _)).trans (KeepsOthers.alloc _ _)).from _
        · go_simp
        · exact ((hB.trans (hb0.mono hsz)).setCell (p := ⟨w.heap.size + 1, 0, none⟩) (by simp) _).alloc (by simp; omega) _
    · have HK := Lib.hid (fun w => awake_c w)
      clear HG HD
      gi_wp2_with fail
      refine ⟨trivial, ?_⟩
      gi_at_call 5
      refine (CallsIn.inRound l (callsIn_wide.2 (HK.out _))).mono ?_
      rintro _ u ⟨rfl, hb0⟩
      have k2 := kc hb0 h2
      have f2 := kfz hb0 (klt h2) g2
      gi_wp2
      refine ⟨?_, ⟨rfl, true, ?_, fun h => by cases h⟩, ?_⟩
      · exact ((keeps_below hb0).trans (KeepsOthers.setCell _ _ _)).from _
      · go_simp
      · exact (hB.trans (hb0.mono hsz)).setCell (p := ⟨w.heap.size + 1, 0, none⟩) (by simp) _
  case done =>
    rintro D xs W hD rfl ⟨⟨⟨hs1, hs2⟩, hc⟩, hB⟩ hK
    rw [up_len] at hs2 hc
    have HK := Lib.hid (fun w => awake_c w)
    obtain ⟨h1, h2, h3, h4, g2, g3, g4⟩ := hc
    rcases hs2 with hp | hp
    · have d1 : decide (p < 0) = true := decide_eq_true hp
      clear hp
      gi_wp2_with fail
      refine ⟨trivial, ?_⟩
      gi_at_call 5
      refine (callsIn_wide.2 (HK.out _)).mono ?_
      rintro _ u ⟨rfl, hb0⟩
      have k2 := kc hb0 h2
      have f2 := kfz hb0 (klt h2) g2
      have hKu : u.heap[D]? = some (.deferred (some [])) := (hb0.block D (Array.getElem?_eq_some_iff.1 hK).1).trans hK
      have hBu := hB.trans (hb0.mono hB.size)
      clear h1 h2 h3 h4 g2 g3 g4
      gi_wp2
      have hK2 := (KeepsOthers.setCell u ⟨w.heap.size + 1, 0, none⟩ (.bool true)).same D _ hKu rfl
      have hB2 : Below w.heap.size w (u.setCell ⟨w.heap.size + 1, 0, none⟩ (.bool true)) := hBu.setCell (p := ⟨w.heap.size + 1, 0, none⟩) (by simp) _
      have c3 : (u.setCell ⟨w.heap.size + 1, 0, none⟩ (.bool true)).cell? ⟨w.heap.size + 1, 0, none⟩ = some (.bool true) := by go_simp
      generalize u.setCell ⟨w.heap.size + 1, 0, none⟩ (.bool true) = W2 at *
      refine ⟨by simp, .inl ⟨_, _, rfl, run_takeDeferred hK2, ?_⟩⟩
      have d3 := cell_kept c3 (grownBy_putObj' _ D (.deferred none)) (fun r e => by cases e; exact ⟨_, hK2, rfl⟩)
      refine ⟨.bool true, ?_, rfl, hB2.trans (belowK_b (w := w) (Nat.le_refl _) W2 D _ _ (by omega) hK2 rfl rfl)⟩
      simp [results, Try.results4, go_sem, d3]
    · have d1 : decide (p < 0) = false := decide_eq_false (by omega)
      have d2 : decide ((151 : Int) ≤ p) = true := decide_eq_true hp
      clear hp
      gi_wp2_with fail
      refine ⟨trivial, ?_⟩
      gi_at_call 5
      refine (callsIn_wide.2 (HK.out _)).mono ?_
      rintro _ u ⟨rfl, hb0⟩
      have k2 := kc hb0 h2
      have f2 := kfz hb0 (klt h2) g2
      have hKu : u.heap[D]? = some (.deferred (some [])) := (hb0.block D (Array.getElem?_eq_some_iff.1 hK).1).trans hK
      have hBu := hB.trans (hb0.mono hB.size)
      clear h1 h2 h3 h4 g2 g3 g4
      gi_wp2
      have hK2 := (KeepsOthers.setCell u ⟨w.heap.size + 1, 0, none⟩ (.bool true)).same D _ hKu rfl
      have hB2 : Below w.heap.size w (u.setCell ⟨w.heap.size + 1, 0, none⟩ (.bool true)) := hBu.setCell (p := ⟨w.heap.size + 1, 0, none⟩) (by simp) _
      have c3 : (u.setCell ⟨w.heap.size + 1, 0, none⟩ (.bool true)).cell? ⟨w.heap.size + 1, 0, none⟩ = some (.bool true) := by go_simp
      generalize u.setCell ⟨w.heap.size + 1, 0, none⟩ (.bool true) = W2 at *
      refine ⟨by simp, .inl ⟨_, _, rfl, run_takeDeferred hK2, ?_⟩⟩
      have d3 := cell_kept c3 (grownBy_putObj' _ D (.deferred none)) (fun r e => by cases e; exact ⟨_, hK2, rfl⟩)
      refine ⟨.bool true, ?_, rfl, hB2.trans (belowK_b (w := w) (Nat.le_refl _) W2 D _ _ (by omega) hK2 rfl rfl)⟩
      simp [results, Try.results4, go_sem, d3]
  case stop =>
    rintro D c pre W hD ⟨k, hk, rfl⟩ ⟨⟨rfl, r, h3, h4⟩, hB⟩ hK
    have hr : r = true := by
      cases r
      · have := h4 rfl
        rw [(stB_up k).1] at this
        cases this
      · rfl
    subst hr
    gi_wp2
    refine ⟨by simp, .inl ⟨_, _, rfl, run_takeDeferred hK, ?_⟩⟩
    have c3 := cell_kept h3 (grownBy_putObj' _ D (.deferred none)) (fun r e => by cases e; exact ⟨_, hK, rfl⟩)
    refine ⟨.bool true, ?_, rfl, hB.trans (belowK_b (w := w) (Nat.le_refl _) W D _ _ (by omega) hK rfl rfl)⟩
    simp [results, Try.results4, go_sem, c3]
theorem all_walk (p : Int) (w : World) : Calls Try.prog 4 #[.int .i64 p] w (LawEnd w) := callsIn_wide.1 (all_in p w)
end Go.Proofs.Ytnigcmicimdphaa
