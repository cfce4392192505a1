/-
  The program: the steps of interrupts and of a reset.
-/
import Derived.Test.YtcplegelppfdeaaDoorConcat14
import Derived.Test.YtcplegelppfdeaaDoorEnds14
set_option linter.unusedSimpArgs false
set_option linter.unusedVariables false
namespace Go.Proofs.YtcplegelppfdeaaDoor
open Go.RowKit Go.PlainAid

theorem holds_cells {W : World} {g : Nat} {T : TypeId} {fr : Nat × Nat} (l : List Int) (h : W.heap[g]? = some (.cells (l.flatMap nE).toArray T fr)) : HoldsW nE 1 W (.slice (some ⟨g, 0, none⟩) l.length l.length) l := by
  refine .inr ⟨g, 0, l.length, rfl, Nat.le_refl _, fun j x hx i u hu => ?_⟩
  have hi : i = 0 := by have := (List.getElem?_eq_some_iff.1 hu).1; simp [nE] at this; omega
  subst hi
  cases hu
  have := flat_at8 nE_len l j x 0 (.int .i64 x) hx rfl
  rw [Nat.zero_add]
  simp only [World.cell?, h]
  rw [List.getElem?_toArray]
  exact this
set_option maxRecDepth 100000 in
set_option maxHeartbeats 4000000 in
theorem seqp_0 (w : World) : Calls Tryd.prog 13 #[.int .i64 0] w fun e u => ∃ v, e = .returned (.tuple #[v, .int .i64 0]) ∧ MineI w.heap.size v (seqL 0) u ∧ Below w.heap.size w u := by
  have HE := Lib.hid (fun W => ending_c 5 (by omega) W)
  go_enter Tryd.func13, Tryd.ntmps13
  go_wp2_with fail
  have hB0 : Below w.heap.size w (w.alloc (Obj.cells #[.int .i64 0, .int .i64 0, .int .i64 31, .int .i64 31, .int .i64 31] 3)) := by go_grown
  have hL := holds_cells (T := 3) (fr := (0, 0)) (W := w.alloc (Obj.cells #[.int .i64 0, .int .i64 0, .int .i64 31, .int .i64 31, .int .i64 31] 3)) (g := w.heap.size) [0, 0, 31, 31, 31] (heap_alloc_new w _)
  refine (HE.out _).mono ?_
  rintro _ u ⟨v3, rfl, h3, hb⟩
  obtain ⟨p3, c3, rfl⟩ := h3.form
  have hL := hL.below hb
  have hB := hB0.trans (hb.mono (by simp))
  clear hB0 hb HE
  go_wp2_with fail
  have hB1 : Below u.heap.size u (u.alloc (Obj.cells #[.slice (some ⟨w.heap.size, 0, none⟩) 5 5, .slice p3 (endL 5).length c3] 22)) := by go_grown
  refine (concat14_c [0, 0, 31, 31, 31] (endL 5) (by decide) (by decide) (.slice (some ⟨w.heap.size, 0, none⟩) 5 5) (.slice p3 (endL 5).length c3) u.heap.size _ (hL.below hB1) (h3.below hB1) (by go_simp; first | done | rfl) (by go_simp; first | done | rfl)).mono ?_
  rintro _ z ⟨v4, rfl, h4, hb⟩
  have HZ := Lib.hid (show MineI w.heap.size v4 (seqL 0) z from ⟨own_low h4.o (by have := hB.size; simp; omega)⟩)
  have HY := Lib.hid (show Below w.heap.size w z from hB.trans ((hB1.trans (hb.mono hB1.size)).mono hB.size))
  clear h4 hb hB hB1 hL h3
  go_wp2
  go_ret2
  exact ⟨v4, rfl, HZ.out, HY.out⟩
set_option maxRecDepth 100000 in
set_option maxHeartbeats 4000000 in
theorem seqp_1 (w : World) : Calls Tryd.prog 13 #[.int .i64 1] w fun e u => ∃ v, e = .returned (.tuple #[v, .int .i64 0]) ∧ MineI w.heap.size v (seqL 1) u ∧ Below w.heap.size w u := by
  have HE := Lib.hid (fun W => ending_c 4 (by omega) W)
  go_enter Tryd.func13, Tryd.ntmps13
  go_wp2_with fail
  have hB0 : Below w.heap.size w (w.alloc (Obj.cells #[.int .i64 0, .int .i64 0] 3)) := by go_grown
  have hL := holds_cells (T := 3) (fr := (0, 0)) (W := w.alloc (Obj.cells #[.int .i64 0, .int .i64 0] 3)) (g := w.heap.size) [0, 0] (heap_alloc_new w _)
  refine (HE.out _).mono ?_
  rintro _ u ⟨v3, rfl, h3, hb⟩
  obtain ⟨p3, c3, rfl⟩ := h3.form
  have hL := hL.below hb
  have hB := hB0.trans (hb.mono (by simp))
  clear hB0 hb HE
  go_wp2_with fail
  have hB1 : Below u.heap.size u (u.alloc (Obj.cells #[.slice (some ⟨w.heap.size, 0, none⟩) 2 2, .slice p3 (endL 4).length c3] 22)) := by go_grown
  refine (concat14_c [0, 0] (endL 4) (by decide) (by decide) (.slice (some ⟨w.heap.size, 0, none⟩) 2 2) (.slice p3 (endL 4).length c3) u.heap.size _ (hL.below hB1) (h3.below hB1) (by go_simp; first | done | rfl) (by go_simp; first | done | rfl)).mono ?_
  rintro _ z ⟨v4, rfl, h4, hb⟩
  have HZ := Lib.hid (show MineI w.heap.size v4 (seqL 1) z from ⟨own_low h4.o (by have := hB.size; simp; omega)⟩)
  have HY := Lib.hid (show Below w.heap.size w z from hB.trans ((hB1.trans (hb.mono hB1.size)).mono hB.size))
  clear h4 hb hB hB1 hL h3
  go_wp2
  go_ret2
  exact ⟨v4, rfl, HZ.out, HY.out⟩
set_option maxRecDepth 100000 in
set_option maxHeartbeats 4000000 in
theorem seqp_2 (w : World) : Calls Tryd.prog 13 #[.int .i64 2] w fun e u => ∃ v, e = .returned (.tuple #[v, .int .i64 0]) ∧ MineI w.heap.size v (seqL 2) u ∧ Below w.heap.size w u := by
  have HE := Lib.hid (fun W => ending_c 4 (by omega) W)
  go_enter Tryd.func13, Tryd.ntmps13
  go_wp2_with fail
  have hB0 : Below w.heap.size w (w.alloc (Obj.cells #[.int .i64 0, .int .i64 0] 3)) := by go_grown
  have hL := holds_cells (T := 3) (fr := (0, 0)) (W := w.alloc (Obj.cells #[.int .i64 0, .int .i64 0] 3)) (g := w.heap.size) [0, 0] (heap_alloc_new w _)
  refine (HE.out _).mono ?_
  rintro _ u ⟨v3, rfl, h3, hb⟩
  obtain ⟨p3, c3, rfl⟩ := h3.form
  have hL := hL.below hb
  have hB := hB0.trans (hb.mono (by simp))
  clear hB0 hb HE
  go_wp2_with fail
  have hB1 : Below u.heap.size u (u.alloc (Obj.cells #[.slice (some ⟨w.heap.size, 0, none⟩) 2 2, .slice p3 (endL 4).length c3] 22)) := by go_grown
  refine (concat14_c [0, 0] (endL 4) (by decide) (by decide) (.slice (some ⟨w.heap.size, 0, none⟩) 2 2) (.slice p3 (endL 4).length c3) u.heap.size _ (hL.below hB1) (h3.below hB1) (by go_simp; first | done | rfl) (by go_simp; first | done | rfl)).mono ?_
  rintro _ z ⟨v4, rfl, h4, hb⟩
  have HZ := Lib.hid (show MineI w.heap.size v4 (seqL 2) z from ⟨own_low h4.o (by have := hB.size; simp; omega)⟩)
  have HY := Lib.hid (show Below w.heap.size w z from hB.trans ((hB1.trans (hb.mono hB1.size)).mono hB.size))
  clear h4 hb hB hB1 hL h3
  go_wp2
  go_ret2
  exact ⟨v4, rfl, HZ.out, HY.out⟩
set_option maxRecDepth 100000 in
set_option maxHeartbeats 4000000 in
theorem seqp_no (k : Int) (hk : ¬ (0 ≤ k ∧ k ≤ 2)) (w : World) : Calls Tryd.prog 13 #[.int .i64 k] w fun e u => ∃ p c, e = .returned (.tuple #[.slice p 0 c, .int .i64 15]) ∧ Below w.heap.size w u := by
  have h0 : (k == 0) = false := by simp; omega
  have h1 : (k == 1) = false := by simp; omega
  have h2 : (k == 2) = false := by simp; omega
  go_enter Tryd.func13, Tryd.ntmps13
  go_wp2
  go_ret2
  exact ⟨_, _, rfl, by go_grown⟩
end Go.Proofs.YtcplegelppfdeaaDoor
