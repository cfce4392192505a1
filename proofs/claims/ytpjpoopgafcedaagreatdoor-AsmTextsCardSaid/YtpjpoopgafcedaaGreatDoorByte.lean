/-
  Which opcode a name has, in a mode, by the program: Byte.
-/
import Derived.Test.YtpjpoopgafcedaaGreatDoorIter
import Derived.Test.YtpjpoopgafcedaaGreatDoorHeld
import Derived.Test.YtpjpoopgafcedaaGreatDoorPlanT
set_option linter.unusedSimpArgs false
set_option linter.unusedVariables false
namespace Go.Proofs.YtpjpoopgafcedaaGreatDoor
open Go.RowKit Go.PlainAid Go.Shelf
attribute [local go_sem] Oper.semAt_some

/-- The first opcode of a name and a mode; what is wrong where there is none. -/
def firstB (l : List OpB) (s : List UInt8) (m : Int) : Option OpB := l.find? fun x => nm x.1 == s && md x.1 == m
def wrongB (l : List OpB) (s : List UInt8) : Int := if l.any (fun x => nm x.1 == s) then 15 else 14
theorem firstB_hit {l : List OpB} {s : List UInt8} {m : Int} {x : OpB} (h : firstB l s m = none) (h1 : (nm x.1 == s) = true) (h2 : (md x.1 == m) = true) : firstB (l ++ [x]) s m = some x := by
  unfold firstB at *; rw [List.find?_append, h]; simp only [Option.none_or, List.find?_cons, h1, h2, Bool.and_self]
theorem firstB_miss {l : List OpB} {s : List UInt8} {m : Int} {x : OpB} (h : firstB l s m = none) (h1 : (nm x.1 == s && md x.1 == m) = false) : firstB (l ++ [x]) s m = none := by
  unfold firstB at *; rw [List.find?_append, h]; simp only [Option.none_or, List.find?_cons, h1, List.find?_nil]
theorem wrongB_hit {l : List OpB} {s : List UInt8} {x : OpB} (h1 : (nm x.1 == s) = true) : wrongB (l ++ [x]) s = 15 := by
  unfold wrongB; rw [List.any_append]; simp only [List.any_cons, h1, Bool.true_or, Bool.or_true, if_true]
theorem wrongB_miss {l : List OpB} {s : List UInt8} {x : OpB} (h1 : (nm x.1 == s) = false) : wrongB (l ++ [x]) s = wrongB l s := by
  unfold wrongB; rw [List.any_append]; simp only [List.any_cons, h1, List.any_nil, Bool.or_false]
theorem upB_more (k : Nat) : ∀ j, ∃ r, upB (k + j) = upB k ++ r
  | 0 => ⟨[], by simp⟩
  | j + 1 => by
    obtain ⟨r, h⟩ := upB_more k j
    by_cases hh : k + j < 256 ∧ isOp (k + j) = true
    · exact ⟨r ++ [⟨k + j, hh⟩], by rw [show k + (j + 1) = (k + j) + 1 from rfl, upB_yes (k + j) hh, h, List.append_assoc]⟩
    · refine ⟨r, ?_⟩
      rw [← h]
      conv => lhs; unfold upB
      show (if h : k + j < 256 ∧ isOp (k + j) = true then upB (k + j) ++ [⟨k + j, h⟩] else upB (k + j)) = _
      rw [dif_neg hh]
theorem firstB_up {k : Nat} (hk : k ≤ 256) {s : List UInt8} {m : Int} {x : OpB} (h : firstB (upB k) s m = some x) : firstB (upB 256) s m = some x := by
  obtain ⟨r, hr⟩ := upB_more k (256 - k)
  rw [show k + (256 - k) = 256 by omega] at hr
  unfold firstB at *
  rw [hr, List.find?_append, h]; rfl
def byteB (s : List UInt8) (m : Int) : Int := match firstB (upB 256) s m with | some x => (x.1 : Int) | none => 0
def byteE (s : List UInt8) (m : Int) : Int := match firstB (upB 256) s m with | some _ => 0 | none => wrongB (upB 256) s

/-- What Byte's own variables hold: name, mode, the two results, what is wrong. -/
def CE (B : Nat) (S : ByteArray) (m e : Int) (W : World) : Prop :=
  W.cell? ⟨B, 0, none⟩ = some (.string S) ∧ W.cell? ⟨B + 1, 0, none⟩ = some (.int .i64 m) ∧ W.cell? ⟨B + 1 + 1, 0, none⟩ = some (.int .u8 0) ∧ W.cell? ⟨B + 1 + 1 + 1, 0, none⟩ = some (.int .i64 0) ∧ W.cell? ⟨B + 1 + 1 + 1 + 1, 0, none⟩ = some (.int .i64 e) ∧
  W.frozen? ⟨B + 1 + 1, 0, none⟩ = false ∧ W.frozen? ⟨B + 1 + 1 + 1, 0, none⟩ = false ∧ W.frozen? ⟨B + 1 + 1 + 1 + 1, 0, none⟩ = false
theorem CE.own {β : Type} (B : Nat) (S : ByteArray) (m : Int) (f : β → Int) : Own (fun s W => CE B S m (f s) W) := fun s A C row ⟨h1, h2, h3, h4, h5, g3, g4, g5⟩ hg hr =>
  ⟨cell_kept h1 hg hr, cell_kept h2 hg hr, cell_kept h3 hg hr, cell_kept h4 hg hr, cell_kept h5 hg hr, (frozen_kept h3 hg hr).trans g3, (frozen_kept h4 hg hr).trans g4, (frozen_kept h5 hg hr).trans g5⟩
theorem CE.alloc {B : Nat} {S : ByteArray} {m e : Int} {W : World} (h : CE B S m e W) (o : Obj) : CE B S m e (W.alloc o) := by
  obtain ⟨h1, h2, h3, h4, h5, g3, g4, g5⟩ := h
  have hb : Below W.heap.size W (W.alloc o) := (Below.refl _ W).alloc (Nat.le_refl _) o
  exact ⟨kc hb h1, kc hb h2, kc hb h3, kc hb h4, kc hb h5, kfz hb (klt h3) g3, kfz hb (klt h4) g4, kfz hb (klt h5) g5⟩
theorem CE.lt {B : Nat} {S : ByteArray} {m e : Int} {W : World} (h : CE B S m e W) : B + 1 + 1 + 1 + 1 < W.heap.size := by
  obtain ⟨o, ho, _⟩ := cells_of_cell h.2.2.2.2.1
  exact (Array.getElem?_eq_some_iff.1 ho).1
theorem CE.turn {B : Nat} {S : ByteArray} {m e : Int} {W : World} (h : CE B S m e W) (e' : Int) : CE B S m e' (W.setCell ⟨B + 1 + 1 + 1 + 1, 0, none⟩ (.int .i64 e')) := by
  obtain ⟨h1, h2, h3, h4, h5, g3, g4, g5⟩ := h
  refine ⟨?_, ?_, ?_, ?_, World.cell?_setCell_same' _ _ _ (by rw [h5]; rfl), by rw [World.frozen?_setCell]; exact g3, by rw [World.frozen?_setCell]; exact g4, by rw [World.frozen?_setCell]; exact g5⟩ <;> (refine (World.cell?_setCell_other _ _ _ _ (by intro e; injection e with e1; omega)).trans ?_; assumption)
/-- What Byte's variable of an opcode holds. -/
def XE (Bx : Nat) (b : Nat) (W : World) : Prop :=
  W.cell? ⟨Bx, 0, none⟩ = some (.string ⟨(nm b).toArray⟩) ∧ W.cell? ⟨Bx, 1, none⟩ = some (.int .i64 (md b)) ∧ W.cell? ⟨Bx, 2, none⟩ = some (.int .i64 (kindP (nm b) (md b)))

set_option maxRecDepth 100000 in
set_option maxHeartbeats 4000000 in
theorem byte_in (S : ByteArray) (m : Int) (w : World) :
    CallsIn Fence.wide 3 Tryz.prog 35 #[.string S, .int .i64 m] w fun e w' => e = .returned (.tuple #[.int .u8 (byteB S.toList m), .int .i64 (byteE S.toList m)]) ∧ Below w.heap.size w w' := by
  refine callsIn_of_wp_marks Tryz.func35 rfl trivial ?_ rfl
  simp only [Tryz.ntmps35, List.size_toArray, List.length_cons, List.length_nil, Nat.reduceAdd, Nat.reduceSub, Array.replicate_succ, Array.replicate_zero, List.push_toArray, List.append_toArray, List.nil_append, List.cons_append]
  gi_wp2_with (refine ⟨trivial, ?_⟩; gi_at_call 57; refine (callsIn_wide.2 (all_c _)).mono ?_; rintro _ _ ⟨rfl, rfl⟩)
  have hC0 : CE w.heap.size S m 14 (((((w.alloc (Obj.cells #[Value.string S] 9)).alloc (Obj.cells #[Value.int IntKind.i64 m] 3)).alloc (Obj.cells #[Value.int IntKind.u8 0] 5)).alloc (Obj.cells #[Value.int IntKind.i64 0] 24)).alloc (Obj.cells #[Value.int IntKind.i64 14] 24)) := by
    refine ⟨?_, ?_, ?_, ?_, ?_, ?_, ?_, ?_⟩ <;> go_simp
  have hB0 : Below w.heap.size w (((((w.alloc (Obj.cells #[Value.string S] 9)).alloc (Obj.cells #[Value.int IntKind.i64 m] 3)).alloc (Obj.cells #[Value.int IntKind.u8 0] 5)).alloc (Obj.cells #[Value.int IntKind.i64 0] 24)).alloc (Obj.cells #[Value.int IntKind.i64 14] 24)) := by go_grown
  generalize ((((w.alloc (Obj.cells #[Value.string S] 9)).alloc (Obj.cells #[Value.int IntKind.i64 m] 3)).alloc (Obj.cells #[Value.int IntKind.u8 0] 5)).alloc (Obj.cells #[Value.int IntKind.i64 0] 24)).alloc (Obj.cells #[Value.int IntKind.i64 14] 24) = W0 at *
  have hlt0 := hC0.lt
  have hsz0 := hB0.size
  refine wpIn_rangeFunc_ownH rfl (by decide) (gf := 76) (lb := #[]) rfl trivial (enters_of Tryz.func76 (by kernel_rfl) rfl)
    (iter_stops (3 - 1) (by decide) W0) walksK_t walksK_b (Below.refl _ _) (fun _ => rfl)
    (fun pre W => (firstB pre S.toList m = none ∧ CE w.heap.size S m (wrongB pre S.toList) W) ∧ Below w.heap.size w W)
    (fun c pre W => (c = .ret ∧ ∃ x, firstB pre S.toList m = some x ∧ W.cell? ⟨w.heap.size + 1 + 1, 0, none⟩ = some (.int .u8 x.1) ∧ W.cell? ⟨w.heap.size + 1 + 1 + 1, 0, none⟩ = some (.int .i64 0)) ∧ Below w.heap.size w W)
    (OwnFrom.and (Own.from (fun s A C row hs hg hr => ⟨hs.1, CE.own w.heap.size S m (fun pre => wrongB pre S.toList) s A C row hs.2 hg hr⟩) _) (ownFrom_below (Nat.le_refl _) hsz0))
    (fun c => OwnFrom.and (Own.from (fun s A C row hs hg hr => by obtain ⟨hc, x, hx, h1, h2⟩ := hs; exact ⟨hc, x, hx, cell_kept h1 hg hr, cell_kept h2 hg hr⟩) _) (ownFrom_below (Nat.le_refl _) hsz0))
    ⟨⟨rfl, hC0⟩, hB0⟩
    (fun x a' W => ∃ Bx, w.heap.size + 1 + 1 + 1 + 1 < Bx ∧ XE Bx x.1 W ∧ a' = { tmps := #[.string S, .int .i64 m, .pointer (some ⟨w.heap.size, 0, none⟩), .pointer (some ⟨w.heap.size + 1, 0, none⟩), .pointer (some ⟨w.heap.size + 1 + 1, 0, none⟩), .pointer (some ⟨w.heap.size + 1 + 1 + 1, 0, none⟩), .pointer (some ⟨w.heap.size + 1 + 1 + 1 + 1, 0, none⟩),
      .int .u8 x.1, .pointer (some ⟨Bx, 0, none⟩), .func (.func 76) #[] #[], .int .u8 x.1, .agg (opA x.1), undef, undef, undef, undef, undef, undef, undef, undef, undef, undef], defers := [] })
    (fun x a' _ A C row hs hg hr => by obtain ⟨Bx, h1, ⟨c1, c2, c3⟩, h3⟩ := hs; exact ⟨Bx, h1, ⟨cell_kept c1 hg (fun r e => (hr r e).2), cell_kept c2 hg (fun r e => (hr r e).2), cell_kept c3 hg (fun r e => (hr r e).2)⟩, h3⟩)
    ?assign ?body ?done ?stop
  case assign =>
    rintro l pre x W K ⟨⟨hf, hc⟩, hB⟩ hK
    have hlt := hc.lt
    have hsz := hB.size
    dsimp only [encB, opA] at hK ⊢
    gi_wp2
    exact hK _ _ ((KeepsOthers.alloc _ _).from _) (KeepsWalks.alloc _ _) ⟨⟨hf, hc.alloc _⟩, hB.alloc hB.size _⟩ ⟨W.heap.size, hlt, ⟨by go_simp, by go_simp, by go_simp⟩, rfl⟩
  case body =>
    rintro l pre x a' W hl ⟨r, hr⟩ ⟨⟨hf, hc⟩, hB⟩ ⟨Bx, hBx, ⟨x1, x2, x3⟩, rfl⟩ hlen
    have hC := Lib.hid hc
    obtain ⟨h1, h2, h3, h4, h5, g3, g4, g5⟩ := hc
    have hX := Lib.hid (toList_mk (nm x.1))
    have HA := Lib.hid (fun h1 h2 => firstB_hit (s := S.toList) (m := m) (x := x) hf h1 h2)
    have HM := Lib.hid (fun h => firstB_miss (s := S.toList) (m := m) (x := x) hf h)
    have HW1 := Lib.hid (fun h => wrongB_hit (l := pre) (s := S.toList) (x := x) h)
    have HW0 := Lib.hid (fun h => wrongB_miss (l := pre) (s := S.toList) (x := x) h)
    dsimp only [opA] at *
    generalize hXs : ByteArray.mk (nm x.1).toArray = X at *
    cases e1 : (nm x.1 == S.toList)
    · have t1 : (X.toList == S.toList) = false := by rw [hX.out, e1]
      have hF := Lib.hid (HM.out (by rw [e1]; rfl))
      have hW := Lib.hid (HW0.out e1)
      clear hX HA HW1 hlen HM HW0 hf e1
      gi_wp2
      exact ⟨KeepsFrom.refl _ _, KeepsWalks.refl _, ⟨hF.out, by rw [hW.out]; exact hC.out⟩, hB⟩
    · have t1 : (X.toList == S.toList) = true := by rw [hX.out, e1]
      cases e2 : (md x.1 == m)
      · have hF := Lib.hid (HM.out (by rw [e1, e2]; rfl))
        have hW := Lib.hid (HW1.out e1)
        clear hX HA HW1 hlen HM HW0 hf e1
        gi_wp2
        exact ⟨(KeepsOthers.setCell _ _ _).from _, KeepsWalks.setCell _ _ _, ⟨hF.out, by rw [hW.out]; exact hC.out.turn 15⟩, hB.setCell (p := ⟨w.heap.size + 1 + 1 + 1 + 1, 0, none⟩) (by simp; omega) _⟩
      · have hF := Lib.hid (HA.out e1 e2)
        clear hX HA HW1 hlen HM HW0 hf e1
        gi_wp2
        refine ⟨((KeepsOthers.setCell _ _ _).trans (KeepsOthers.setCell _ _ _)).from _, ⟨rfl, x, hF.out, ?_, ?_⟩, (hB.setCell (p := ⟨w.heap.size + 1 + 1, 0, none⟩) (by simp; omega) _).setCell (p := ⟨w.heap.size + 1 + 1 + 1, 0, none⟩) (by simp; omega) _⟩
        · go_simp
        · go_simp
  case done =>
    rintro D xs W hD rfl ⟨⟨hf, h1, h2, h3, h4, h5, g3, g4, g5⟩, hB⟩ hK
    have h3' : W.drew.cell? ⟨w.heap.size + 1 + 1, 0, none⟩ = some (.int .u8 0) := h3
    gi_wp2
    gi_region
    all_goals gi_wp2
    have hK2 := (((KeepsOthers.setCell W ⟨w.heap.size + 1 + 1, 0, none⟩ (.int .u8 0)).trans (KeepsOthers.setCell _ ⟨w.heap.size + 1 + 1 + 1, 0, none⟩ (.int .i64 (wrongB (upB 256) S.toList)))).trans (KeepsOthers.drew _)).same D _ hK rfl
    have hB2 : Below w.heap.size w ((W.setCell ⟨w.heap.size + 1 + 1, 0, none⟩ (.int .u8 0)).setCell ⟨w.heap.size + 1 + 1 + 1, 0, none⟩ (.int .i64 (wrongB (upB 256) S.toList))).drew :=
      ((hB.setCell (p := ⟨w.heap.size + 1 + 1, 0, none⟩) (by simp; omega) _).setCell (p := ⟨w.heap.size + 1 + 1 + 1, 0, none⟩) (by simp; omega) _).drew
    have c3 : ((W.setCell ⟨w.heap.size + 1 + 1, 0, none⟩ (.int .u8 0)).setCell ⟨w.heap.size + 1 + 1 + 1, 0, none⟩ (.int .i64 (wrongB (upB 256) S.toList))).drew.cell? ⟨w.heap.size + 1 + 1, 0, none⟩ = some (.int .u8 0) := by go_simp
    have c4 : ((W.setCell ⟨w.heap.size + 1 + 1, 0, none⟩ (.int .u8 0)).setCell ⟨w.heap.size + 1 + 1 + 1, 0, none⟩ (.int .i64 (wrongB (upB 256) S.toList))).drew.cell? ⟨w.heap.size + 1 + 1 + 1, 0, none⟩ = some (.int .i64 (wrongB (upB 256) S.toList)) := by go_simp
    generalize ((W.setCell ⟨w.heap.size + 1 + 1, 0, none⟩ (.int .u8 0)).setCell ⟨w.heap.size + 1 + 1 + 1, 0, none⟩ (.int .i64 (wrongB (upB 256) S.toList))).drew = W2 at *
    refine ⟨by simp, .inl ⟨_, _, rfl, run_takeDeferred hK2, ?_⟩⟩
    have d3 := cell_kept c3 (grownBy_putObj' _ D (.deferred none)) (fun r e => by cases e; exact ⟨_, hK2, rfl⟩)
    have d4 := cell_kept c4 (grownBy_putObj' _ D (.deferred none)) (fun r e => by cases e; exact ⟨_, hK2, rfl⟩)
    refine ⟨.tuple #[.int .u8 0, .int .i64 (wrongB (upB 256) S.toList)], ?_, by unfold byteB byteE; rw [hf], hB2.trans (belowK_b (w := w) (Nat.le_refl _) W2 D _ _ (by omega) hK2 rfl rfl)⟩
    simp [results, Tryz.results35, go_sem, d3, d4]
  case stop =>
    rintro D c pre W hD ⟨k, hk, rfl⟩ ⟨⟨rfl, x, hx, h3, h4⟩, hB⟩ hK
    have hfull := firstB_up hk hx
    gi_wp2
    refine ⟨by simp, .inl ⟨_, _, rfl, run_takeDeferred hK, ?_⟩⟩
    have c3 := cell_kept h3 (grownBy_putObj' _ D (.deferred none)) (fun r e => by cases e; exact ⟨_, hK, rfl⟩)
    have c4 := cell_kept h4 (grownBy_putObj' _ D (.deferred none)) (fun r e => by cases e; exact ⟨_, hK, rfl⟩)
    refine ⟨.tuple #[.int .u8 x.1, .int .i64 0], ?_, by unfold byteB byteE; rw [hfull], hB.trans (belowK_b (w := w) (Nat.le_refl _) W D _ _ (by omega) hK rfl rfl)⟩
    simp [results, Tryz.results35, go_sem, c3, c4]
theorem byte_c (S : ByteArray) (m : Int) (w : World) :
    Calls Tryz.prog 35 #[.string S, .int .i64 m] w fun e w' => e = .returned (.tuple #[.int .u8 (byteB S.toList m), .int .i64 (byteE S.toList m)]) ∧ Below w.heap.size w w' :=
  callsIn_wide.1 (byte_in S m w)
end Go.Proofs.YtpjpoopgafcedaaGreatDoor
