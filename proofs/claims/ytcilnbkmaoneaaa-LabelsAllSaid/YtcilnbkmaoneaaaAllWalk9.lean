/-
  LabelsAll: its walk.
-/
import Derived.Test.YtcilnbkmaoneaaaFin9
import Derived.Test.YtcilnbkmaoneaaaCheckEq9
import Derived.Test.YtcilnbkmaoneaaaIs9
import Derived.Test.YtcilnbkmaoneaaaDoc4
import Derived.Test.YtcilnbkmaoneaaaPlanI
import Derived.Sort.CutIn
set_option linter.unusedSimpArgs false
set_option linter.unusedVariables false
namespace Go.Proofs.Ytcilnbkmaoneaaa
open Go.RowKit Go.PlainAid Go.Shelf
attribute [local go_sem] Oper.semAt_some

/-- What the law's own variables hold within a round: the span, the next address, how many; what is as it was. -/
structure St9 (u5 : World) (B tb : Nat) (W0 W : World) (i : Nat) (nx n : Int) : Prop where
  i : Nc u5.heap.size i W
  x : Nc (u5.heap.size + 1) nx W
  n : Nc (u5.heap.size + 2) n W
  k : KeepsOthers W0 W
  q : Kq B tb W0 W
  b : Below u5.heap.size u5 W
theorem St9.below {u5 : World} {B tb : Nat} {W0 W U : World} {i : Nat} {nx n : Int} (h : St9 u5 B tb W0 W i nx n) (hb : Below W.heap.size W U) (hB : B < u5.heap.size) (htb : tb < u5.heap.size) : St9 u5 B tb W0 U i nx n :=
  ⟨h.i.below hb, h.x.below hb, h.n.below hb, h.k.trans (keeps_of9 hb), h.q.trans (Kq.below hb (Nat.lt_of_lt_of_le hB h.b.size) (Nat.lt_of_lt_of_le htb h.b.size)), h.b.trans (hb.mono h.b.size)⟩
theorem nc_other {D E : Nat} {v : Int} {W : World} (h : Nc D v W) (hne : D ≠ E) (u : Value) : Nc D v (W.setCell ⟨E, 0, none⟩ u) :=
  ⟨(World.cell?_of_block (heap_setCell_other W ⟨E, 0, none⟩ D u hne)).trans h.1, by rw [World.frozen?_setCell]; exact h.2⟩
theorem St9.setN {u5 : World} {B tb : Nat} {W0 W : World} {i : Nat} {nx n : Int} (h : St9 u5 B tb W0 W i nx n) (hB : B < u5.heap.size) (htb : tb < u5.heap.size) (v : Int) : St9 u5 B tb W0 (W.setCell ⟨u5.heap.size + 2, 0, none⟩ (.int .i64 v)) i nx v :=
  ⟨nc_other h.i (by omega) _, nc_other h.x (by omega) _, h.n.set v, h.k.trans (KeepsOthers.setCell _ _ _), h.q.set _ _ (by show B ≠ u5.heap.size + 2; omega) (by show tb ≠ u5.heap.size + 2; omega), h.b.setCell (p := ⟨u5.heap.size + 2, 0, none⟩) (by show u5.heap.size ≤ u5.heap.size + 2; omega) _⟩
theorem St9.setX {u5 : World} {B tb : Nat} {W0 W : World} {i : Nat} {nx n : Int} (h : St9 u5 B tb W0 W i nx n) (hB : B < u5.heap.size) (htb : tb < u5.heap.size) (v : Int) : St9 u5 B tb W0 (W.setCell ⟨u5.heap.size + 1, 0, none⟩ (.int .i64 v)) i v n :=
  ⟨nc_other h.i (by omega) _, h.x.set v, nc_other h.n (by omega) _, h.k.trans (KeepsOthers.setCell _ _ _), h.q.set _ _ (by show B ≠ u5.heap.size + 1; omega) (by show tb ≠ u5.heap.size + 1; omega), h.b.setCell (p := ⟨u5.heap.size + 1, 0, none⟩) (by show u5.heap.size ≤ u5.heap.size + 1; omega) _⟩
theorem St9.setI {u5 : World} {B tb : Nat} {W0 W : World} {i : Nat} {nx n : Int} (h : St9 u5 B tb W0 W i nx n) (hB : B < u5.heap.size) (htb : tb < u5.heap.size) (v : Nat) : St9 u5 B tb W0 (W.setCell ⟨u5.heap.size, 0, none⟩ (.int .i64 (v : Int))) v nx n :=
  ⟨h.i.set v, nc_other h.x (by omega) _, nc_other h.n (by omega) _, h.k.trans (KeepsOthers.setCell _ _ _), h.q.set _ _ (by show B ≠ u5.heap.size; omega) (by show tb ≠ u5.heap.size; omega), h.b.setCell (p := ⟨u5.heap.size, 0, none⟩) (Nat.le_refl _) _⟩
theorem nc_new (W : World) (v : Int) (T : TypeId) : Nc W.heap.size v (W.alloc (.cells #[.int .i64 v] T)) := by
  have hh := heap_alloc_new W (.cells #[.int .i64 v] T)
  exact ⟨(cell_of_row _ _ _ _ T _ hh).trans rfl, frozen_of_row _ _ _ _ T hh⟩
set_option maxRecDepth 100000 in
set_option maxHeartbeats 16000000 in
theorem all_in9 (P : Pol) (hb8 : Bits P) (v : Value) (a : Int) (hi : -9223372036854775808 ≤ a ∧ a ≤ 9223372036854775807) (w : World) (hv : HoldsP w v P) :
    CallsIn Fence.wide 4 Try.prog 4 #[v, .int .i64 a] w (LawEnd w) := by
  have HFW := Lib.hid (fun W (hb : Below w.heap.size w W) => few7_c P v W (hv.below hb))
  have HV := Lib.hid hv
  obtain ⟨v1, v2, rfl, h1, h2⟩ := hv
  refine callsIn_of_wp_marks Try.func4 rfl trivial ?_ rfl
  simp only [Try.ntmps4, List.size_toArray, List.length_cons, List.length_nil, Nat.reduceAdd, Nat.reduceSub, Array.replicate_succ, Array.replicate_zero, List.push_toArray, List.append_toArray, List.nil_append, List.cons_append]
  refine wpIn_wide.2 ?_
  by_cases hF : P.s.length ≤ 80 ∧ P.k.length ≤ 80
  case neg =>
    have e : (decide (P.s.length ≤ 80) && decide (P.k.length ≤ 80)) = false := by
      cases hh : (decide (P.s.length ≤ 80) && decide (P.k.length ≤ 80))
      · rfl
      · simp only [Bool.and_eq_true, decide_eq_true_eq] at hh; exact absurd hh hF
    rw [e] at HFW
    clear h1 h2 hF e hi
    go_wp2_with fail
    ((with_reducible refine (HFW.out _ (by go_grown)).mono ?_); rintro _ u1 ⟨rfl, hb⟩)
    have T : CC u1 w.heap.size 0 1 (v1) (v2) ∧ CC u1 w.heap.size 2 3 (.int .i64 P.d) (.int .i64 P.t) ∧ CF u1 (w.heap.size + 1 + 1) 0 (.bool false) := by
        refine ⟨⟨?_, ?_⟩, ⟨?_, ?_⟩, ⟨?_, ?_⟩⟩ <;> first | (refine kc hb ?_ <;> (go_simp; first | done | rfl)) | (refine kfz hb ?_ ?_ <;> first | (go_size; done) | (go_simp; done))
    have hz := hb.size
    (try simp only [World.size_alloc, World.size_setCell, World.size_drew] at hz)
    have L : w.heap.size < u1.heap.size ∧ w.heap.size + 1 + 1 < u1.heap.size := by omega
    have hB' : Below w.heap.size w u1 := by
        refine kb ?_ hb
        go_grown
    clear hb hz
    obtain ⟨⟨hp_0, hp_1⟩, ⟨hp_2, hp_3⟩, ⟨hr_0, fr_0⟩⟩ := T
    obtain ⟨hlp, hlr⟩ := L
    obtain ⟨hnp0, hnp1, hkp1, hnp2, hkp2⟩ := ap0 hlp
    have hnr0 : ¬ (w.heap.size + 1 + 1 = u1.heap.size) := by omega
    have hnr1 : ¬ (w.heap.size + 1 = u1.heap.size) := by omega
    have hkr1 : w.heap.size + 1 < u1.heap.size := by omega
    have hkr2 : w.heap.size < u1.heap.size := by omega
    have hB := hB'; clear hB'
    have hsz := hB.size
    go_wp2_with fail
    ((with_reducible refine (awake9_c _).mono ?_); rintro _ u2 ⟨rfl, hb⟩)
    have T : CC u2 w.heap.size 0 1 (v1) (v2) ∧ CC u2 w.heap.size 2 3 (.int .i64 P.d) (.int .i64 P.t) ∧ CF u2 (w.heap.size + 1 + 1) 0 (.bool false) := by
        refine ⟨⟨?_, ?_⟩, ⟨?_, ?_⟩, ⟨?_, ?_⟩⟩ <;> first | (refine kc hb ?_ <;> (go_simp; first | done | rfl)) | (refine kfz hb ?_ ?_ <;> first | (go_size; done) | (go_simp; done))
    have hz := hb.size
    (try simp only [World.size_alloc, World.size_setCell, World.size_drew] at hz)
    have L : w.heap.size < u2.heap.size ∧ w.heap.size + 1 + 1 < u2.heap.size := by omega
    have hB' : Below w.heap.size w u2 := by
        refine kb ?_ hb
        go_grown
    clear hp_0 hp_1 hp_2 hp_3 hr_0 fr_0 hlp hlr hnp0 hnp1 hkp1 hnp2 hkp2 hnr0 hnr1 hkr1 hkr2 hB hsz
    clear hb hz
    obtain ⟨⟨hp_0, hp_1⟩, ⟨hp_2, hp_3⟩, ⟨hr_0, fr_0⟩⟩ := T
    obtain ⟨hlp, hlr⟩ := L
    obtain ⟨hnp0, hnp1, hkp1, hnp2, hkp2⟩ := ap0 hlp
    have hnr0 : ¬ (w.heap.size + 1 + 1 = u2.heap.size) := by omega
    have hnr1 : ¬ (w.heap.size + 1 = u2.heap.size) := by omega
    have hkr1 : w.heap.size + 1 < u2.heap.size := by omega
    have hkr2 : w.heap.size < u2.heap.size := by omega
    have hB := hB'; clear hB'
    have hsz := hB.size
    go_wp2
    refine ⟨.bool true, ?_, rfl, hB.setCell (p := ⟨w.heap.size + 2, 0, none⟩) (by simp) _⟩
    have d3 : (u2.setCell ⟨w.heap.size + 2, 0, none⟩ (.bool true)).cell? ⟨w.heap.size + 2, 0, none⟩ = some (.bool true) := by go_simp
    simp [results, Try.results4, go_sem, d3]
  case pos =>
    have e : (decide (P.s.length ≤ 80) && decide (P.k.length ≤ 80)) = true := by simp only [Bool.and_eq_true, decide_eq_true_eq]; exact hF
    rw [e] at HFW
    have hl : P.s.length ≤ 1000 ∧ P.k.length ≤ 1000 := by omega
    by_cases hc : checkM P = 0
    case neg =>
      have HNW := Lib.hid (fun W (hb : Below w.heap.size w W) => newt_bad P hl _ W (HV.out.below hb) hc)
      have HCK := Lib.hid (fun W (hb : Below w.heap.size w W) => check_c P hl _ W (HV.out.below hb))
      generalize checkM P = E at *
      have e1 : (E == 0) = false := by simpa using hc
      have e2 : (E != 0) = true := by simp [bne, e1]
      clear h1 h2 hF e hi hl hb8 hc
      go_wp2_with fail
      ((with_reducible refine (HFW.out _ (by go_grown)).mono ?_); rintro _ u1 ⟨rfl, hb⟩)
      have T : CC u1 w.heap.size 0 1 (v1) (v2) ∧ CC u1 w.heap.size 2 3 (.int .i64 P.d) (.int .i64 P.t) ∧ CF u1 (w.heap.size + 1 + 1) 0 (.bool false) := by
          refine ⟨⟨?_, ?_⟩, ⟨?_, ?_⟩, ⟨?_, ?_⟩⟩ <;> first | (refine kc hb ?_ <;> (go_simp; first | done | rfl)) | (refine kfz hb ?_ ?_ <;> first | (go_size; done) | (go_simp; done))
      have hz := hb.size
      (try simp only [World.size_alloc, World.size_setCell, World.size_drew] at hz)
      have L : w.heap.size < u1.heap.size ∧ w.heap.size + 1 + 1 < u1.heap.size := by omega
      have hB' : Below w.heap.size w u1 := by
          refine kb ?_ hb
          go_grown
      clear hb hz
      obtain ⟨⟨hp_0, hp_1⟩, ⟨hp_2, hp_3⟩, ⟨hr_0, fr_0⟩⟩ := T
      obtain ⟨hlp, hlr⟩ := L
      obtain ⟨hnp0, hnp1, hkp1, hnp2, hkp2⟩ := ap0 hlp
      have hnr0 : ¬ (w.heap.size + 1 + 1 = u1.heap.size) := by omega
      have hnr1 : ¬ (w.heap.size + 1 = u1.heap.size) := by omega
      have hkr1 : w.heap.size + 1 < u1.heap.size := by omega
      have hkr2 : w.heap.size < u1.heap.size := by omega
      have hB := hB'; clear hB'
      have hsz := hB.size
      go_wp2_with fail
      ((with_reducible refine (HNW.out _ hB).mono ?_); rintro _ u2 ⟨rfl, hb⟩)
      have T : CC u2 w.heap.size 0 1 (v1) (v2) ∧ CC u2 w.heap.size 2 3 (.int .i64 P.d) (.int .i64 P.t) ∧ CF u2 (w.heap.size + 1 + 1) 0 (.bool false) := by
          refine ⟨⟨?_, ?_⟩, ⟨?_, ?_⟩, ⟨?_, ?_⟩⟩ <;> first | (refine kc hb ?_ <;> (go_simp; first | done | rfl)) | (refine kfz hb ?_ ?_ <;> first | (go_size; done) | (go_simp; done))
      have hz := hb.size
      (try simp only [World.size_alloc, World.size_setCell, World.size_drew] at hz)
      have L : w.heap.size < u2.heap.size ∧ w.heap.size + 1 + 1 < u2.heap.size := by omega
      have hB' : Below w.heap.size w u2 := by
          refine kb ?_ hb
          go_grown
      clear hp_0 hp_1 hp_2 hp_3 hr_0 fr_0 hlp hlr hnp0 hnp1 hkp1 hnp2 hkp2 hnr0 hnr1 hkr1 hkr2 hB hsz
      clear hb hz
      obtain ⟨⟨hp_0, hp_1⟩, ⟨hp_2, hp_3⟩, ⟨hr_0, fr_0⟩⟩ := T
      obtain ⟨hlp, hlr⟩ := L
      obtain ⟨hnp0, hnp1, hkp1, hnp2, hkp2⟩ := ap0 hlp
      have hnr0 : ¬ (w.heap.size + 1 + 1 = u2.heap.size) := by omega
      have hnr1 : ¬ (w.heap.size + 1 = u2.heap.size) := by omega
      have hkr1 : w.heap.size + 1 < u2.heap.size := by omega
      have hkr2 : w.heap.size < u2.heap.size := by omega
      have hB := hB'; clear hB'
      have hsz := hB.size
      go_wp2_with fail
      ((with_reducible refine (HCK.out _ hB).mono ?_); rintro _ u3 ⟨rfl, hb⟩)
      have T : CC u3 w.heap.size 0 1 (v1) (v2) ∧ CC u3 w.heap.size 2 3 (.int .i64 P.d) (.int .i64 P.t) ∧ CF u3 (w.heap.size + 1 + 1) 0 (.bool false) := by
          refine ⟨⟨?_, ?_⟩, ⟨?_, ?_⟩, ⟨?_, ?_⟩⟩ <;> first | (refine kc hb ?_ <;> (go_simp; first | done | rfl)) | (refine kfz hb ?_ ?_ <;> first | (go_size; done) | (go_simp; done))
      have hz := hb.size
      (try simp only [World.size_alloc, World.size_setCell, World.size_drew] at hz)
      have L : w.heap.size < u3.heap.size ∧ w.heap.size + 1 + 1 < u3.heap.size := by omega
      have hB' : Below w.heap.size w u3 := by
          refine kb ?_ hb
          go_grown
      clear hp_0 hp_1 hp_2 hp_3 hr_0 fr_0 hlp hlr hnp0 hnp1 hkp1 hnp2 hkp2 hnr0 hnr1 hkr1 hkr2 hB hsz
      clear hb hz
      obtain ⟨⟨hp_0, hp_1⟩, ⟨hp_2, hp_3⟩, ⟨hr_0, fr_0⟩⟩ := T
      obtain ⟨hlp, hlr⟩ := L
      obtain ⟨hnp0, hnp1, hkp1, hnp2, hkp2⟩ := ap0 hlp
      have hnr0 : ¬ (w.heap.size + 1 + 1 = u3.heap.size) := by omega
      have hnr1 : ¬ (w.heap.size + 1 = u3.heap.size) := by omega
      have hkr1 : w.heap.size + 1 < u3.heap.size := by omega
      have hkr2 : w.heap.size < u3.heap.size := by omega
      have hB := hB'; clear hB'
      have hsz := hB.size
      go_wp2_with fail
      ((with_reducible refine (awake9_c _).mono ?_); rintro _ u4 ⟨rfl, hb⟩)
      have T : CF u4 (w.heap.size + 1 + 1) 0 (.bool false) := by
          refine ⟨?_, ?_⟩ <;> first | (refine kc hb ?_ <;> (go_simp; first | done | rfl)) | (refine kfz hb ?_ ?_ <;> first | (go_size; done) | (go_simp; done))
      have hz := hb.size
      (try simp only [World.size_alloc, World.size_setCell, World.size_drew] at hz)
      have L : w.heap.size + 1 + 1 < u4.heap.size := by omega
      have hB' : Below w.heap.size w u4 := by
          refine kb ?_ hb
          go_grown
      clear hp_0 hp_1 hp_2 hp_3 hr_0 fr_0 hlp hlr hnp0 hnp1 hkp1 hnp2 hkp2 hnr0 hnr1 hkr1 hkr2 hB hsz
      clear hb hz
      obtain ⟨hr_0, fr_0⟩ := T
      have hlr := L; clear L
      have hnr0 : ¬ (w.heap.size + 1 + 1 = u4.heap.size) := by omega
      have hnr1 : ¬ (w.heap.size + 1 = u4.heap.size) := by omega
      have hkr1 : w.heap.size + 1 < u4.heap.size := by omega
      have hnr2 : ¬ (w.heap.size = u4.heap.size) := by omega
      have hkr2 : w.heap.size < u4.heap.size := by omega
      have hB := hB'; clear hB'
      have hsz := hB.size
      go_wp2
      refine ⟨.bool true, ?_, rfl, hB.setCell (p := ⟨w.heap.size + 2, 0, none⟩) (by simp) _⟩
      have d3 : (u4.setCell ⟨w.heap.size + 2, 0, none⟩ (.bool true)).cell? ⟨w.heap.size + 2, 0, none⟩ = some (.bool true) := by go_simp
      simp [results, Try.results4, go_sem, d3]
    case pos =>
      have HNW := Lib.hid (fun W (hb : Below w.heap.size w W) => newt_good P hl _ W (HV.out.below hb) hc)
      have HPL := Lib.hid (fun W (hb : Below w.heap.size w W) => Plain7f_c P hl hb8 _ W (HV.out.below hb))
      have HSO := Lib.hid (fun W x (hx : HoldsD W x P.s) => sortd_c P.s hl.1 x W hx)
      have HG := Lib.hid (good_of hc).1
      have HB8 := Lib.hid hb8
      have HLL := Lib.hid (sortS_len P.s)
      clear h1 h2 hF e hl hb8 hc
      go_wp2_with fail
      ((with_reducible refine (HFW.out _ (by go_grown)).mono ?_); rintro _ u1 ⟨rfl, hb⟩)
      have T : CC u1 w.heap.size 0 1 (v1) (v2) ∧ CC u1 w.heap.size 2 3 (.int .i64 P.d) (.int .i64 P.t) ∧ u1.cell? ⟨w.heap.size + 1, 0, none⟩ = some (.int .i64 a) ∧ CF u1 (w.heap.size + 1 + 1) 0 (.bool false) := by
          refine ⟨⟨?_, ?_⟩, ⟨?_, ?_⟩, ?_, ⟨?_, ?_⟩⟩ <;> first | (refine kc hb ?_ <;> (go_simp; first | done | rfl)) | (refine kfz hb ?_ ?_ <;> first | (go_size; done) | (go_simp; done))
      have hz := hb.size
      (try simp only [World.size_alloc, World.size_setCell, World.size_drew] at hz)
      have L : w.heap.size < u1.heap.size ∧ w.heap.size + 1 < u1.heap.size ∧ w.heap.size + 1 + 1 < u1.heap.size := by omega
      have hB' : Below w.heap.size w u1 := by
          refine kb ?_ hb
          go_grown
      clear hb hz
      obtain ⟨⟨hp_0, hp_1⟩, ⟨hp_2, hp_3⟩, hm_0, ⟨hr_0, fr_0⟩⟩ := T
      obtain ⟨hlp, hlm, hlr⟩ := L
      obtain ⟨hnp0, hnp1, hkp1, hnp2, hkp2⟩ := ap0 hlp
      obtain ⟨hnm0, hkm1⟩ := ap1 hlm
      have hnr0 : ¬ (w.heap.size + 1 + 1 = u1.heap.size) := by omega
      have hkr1 : w.heap.size + 1 < u1.heap.size := by omega
      have hB := hB'; clear hB'
      have hsz := hB.size
      go_wp2_with fail
      ((with_reducible refine (HNW.out _ hB).mono ?_); rintro _ u2 ⟨tb, rfl, hb, hT, htb⟩)
      have hs_u2 := Lib.hid hb
      have T : CC u2 w.heap.size 0 1 (v1) (v2) ∧ CC u2 w.heap.size 2 3 (.int .i64 P.d) (.int .i64 P.t) ∧ u2.cell? ⟨w.heap.size + 1, 0, none⟩ = some (.int .i64 a) ∧ CF u2 (w.heap.size + 1 + 1) 0 (.bool false) := by
          refine ⟨⟨?_, ?_⟩, ⟨?_, ?_⟩, ?_, ⟨?_, ?_⟩⟩ <;> first | (refine kc hb ?_ <;> (go_simp; first | done | rfl)) | (refine kfz hb ?_ ?_ <;> first | (go_size; done) | (go_simp; done))
      have hz := hb.size
      (try simp only [World.size_alloc, World.size_setCell, World.size_drew] at hz)
      have L : w.heap.size < u2.heap.size ∧ w.heap.size + 1 < u2.heap.size ∧ w.heap.size + 1 + 1 < u2.heap.size := by omega
      have hB' : Below w.heap.size w u2 := by
          refine kb ?_ hb
          go_grown
      clear hp_0 hp_1 hp_2 hp_3 hm_0 hr_0 fr_0 hlp hlm hlr hnp0 hnp1 hkp1 hnp2 hkp2 hnm0 hkm1 hnr0 hkr1 hB hsz
      clear hb hz
      obtain ⟨⟨hp_0, hp_1⟩, ⟨hp_2, hp_3⟩, hm_0, ⟨hr_0, fr_0⟩⟩ := T
      obtain ⟨hlp, hlm, hlr⟩ := L
      obtain ⟨hnp0, hnp1, hkp1, hnp2, hkp2⟩ := ap0 hlp
      obtain ⟨hnm0, hkm1⟩ := ap1 hlm
      have hnr0 : ¬ (w.heap.size + 1 + 1 = u2.heap.size) := by omega
      have hkr1 : w.heap.size + 1 < u2.heap.size := by omega
      have hB := hB'; clear hB'
      have hsz := hB.size
      have HT2 := Lib.hid hT
      clear hT
      go_wp2_with fail
      ((with_reducible refine (HPL.out _ hB).mono ?_); rintro _ u3 ⟨x, y, rfl, hx, hy, gx, gy, hb⟩)
      have hs_u3 := Lib.hid hb
      have T : CC u3 w.heap.size 0 1 (v1) (v2) ∧ CC u3 w.heap.size 2 3 (.int .i64 P.d) (.int .i64 P.t) ∧ u3.cell? ⟨w.heap.size + 1, 0, none⟩ = some (.int .i64 a) ∧ CF u3 (w.heap.size + 1 + 1) 0 (.bool false) := by
          refine ⟨⟨?_, ?_⟩, ⟨?_, ?_⟩, ?_, ⟨?_, ?_⟩⟩ <;> first | (refine kc hb ?_ <;> (go_simp; first | done | rfl)) | (refine kfz hb ?_ ?_ <;> first | (go_size; done) | (go_simp; done))
      have hz := hb.size
      (try simp only [World.size_alloc, World.size_setCell, World.size_drew] at hz)
      have L : w.heap.size < u3.heap.size ∧ w.heap.size + 1 < u3.heap.size ∧ w.heap.size + 1 + 1 < u3.heap.size := by omega
      have hB' : Below w.heap.size w u3 := by
          refine kb ?_ hb
          go_grown
      clear hp_0 hp_1 hp_2 hp_3 hm_0 hr_0 fr_0 hlp hlm hlr hnp0 hnp1 hkp1 hnp2 hkp2 hnm0 hkm1 hnr0 hkr1 hB hsz
      clear hb hz
      obtain ⟨⟨hp_0, hp_1⟩, ⟨hp_2, hp_3⟩, hm_0, ⟨hr_0, fr_0⟩⟩ := T
      obtain ⟨hlp, hlm, hlr⟩ := L
      obtain ⟨hnp0, hnp1, hkp1, hnp2, hkp2⟩ := ap0 hlp
      obtain ⟨hnm0, hkm1⟩ := ap1 hlm
      have hnr0 : ¬ (w.heap.size + 1 + 1 = u3.heap.size) := by omega
      have hkr1 : w.heap.size + 1 < u3.heap.size := by omega
      have hB := hB'; clear hB'
      have hsz := hB.size
      have HT3 := Lib.hid (HT2.out.below hs_u3.out)
      have HX3 := Lib.hid hx
      clear hx hy gx gy HT2
      have hf1 : ∀ W, (Instr.field 35 (.agg #[x, y, .int .i64 P.d, .int .i64 P.t]) 0).run Try.prog W = .ok x W := fun W => by kernel_rfl
      go_wp2_with fail
      ((with_reducible refine (HSO.out _ x HX3.out).mono ?_); rintro _ u4 ⟨lv, rfl, hown, hb⟩)
      have hs_u4 := Lib.hid hb
      have T : CC u4 w.heap.size 0 1 (v1) (v2) ∧ CC u4 w.heap.size 2 3 (.int .i64 P.d) (.int .i64 P.t) ∧ u4.cell? ⟨w.heap.size + 1, 0, none⟩ = some (.int .i64 a) ∧ CF u4 (w.heap.size + 1 + 1) 0 (.bool false) := by
          refine ⟨⟨?_, ?_⟩, ⟨?_, ?_⟩, ?_, ⟨?_, ?_⟩⟩ <;> first | (refine kc hb ?_ <;> (go_simp; first | done | rfl)) | (refine kfz hb ?_ ?_ <;> first | (go_size; done) | (go_simp; done))
      have hz := hb.size
      (try simp only [World.size_alloc, World.size_setCell, World.size_drew] at hz)
      have L : w.heap.size < u4.heap.size ∧ w.heap.size + 1 < u4.heap.size ∧ w.heap.size + 1 + 1 < u4.heap.size := by omega
      have hB' : Below w.heap.size w u4 := by
          refine kb ?_ hb
          go_grown
      clear hp_0 hp_1 hp_2 hp_3 hm_0 hr_0 fr_0 hlp hlm hlr hnp0 hnp1 hkp1 hnp2 hkp2 hnm0 hkm1 hnr0 hkr1 hB hsz
      clear hb hz
      obtain ⟨⟨hp_0, hp_1⟩, ⟨hp_2, hp_3⟩, hm_0, ⟨hr_0, fr_0⟩⟩ := T
      obtain ⟨hlp, hlm, hlr⟩ := L
      obtain ⟨hnp0, hnp1, hkp1, hnp2, hkp2⟩ := ap0 hlp
      obtain ⟨hnm0, hkm1⟩ := ap1 hlm
      have hnr0 : ¬ (w.heap.size + 1 + 1 = u4.heap.size) := by omega
      have hkr1 : w.heap.size + 1 < u4.heap.size := by omega
      have hB := hB'; clear hB'
      have hsz := hB.size
      rw [← HLL.out] at hown
      have hhd : HoldsD u4 lv (sortS P.s) := HoldsE.own pl_len hown
      have HT4 := Lib.hid (HT3.out.below hs_u4.out)
      have HGL := Lib.hid HG.out.sort
      have HSB := Lib.hid (fun k => (HG.out.bits_sort k).symm)
      have HSL := Lib.hid (sortS_sorted P.s)
      have hl64 := HG.out.sort.few
      clear hown HT3 HX3 hf1
      generalize sortS P.s = l at *
      obtain ⟨lp, lc, rfl⟩ := hhd.form
      obtain ⟨n, hn⟩ : ∃ n, l.length = n := ⟨_, rfl⟩
      rw [hn] at hhd hl64 ⊢
      have HN := Lib.hid hn
      have HLD := Lib.hid hhd
      clear hhd hn
      go_wp2_with fail
      ((with_reducible refine (all_c (some ⟨tb, 0, none⟩) _).mono ?_); rintro _ u5 ⟨B, rfl, hb, hBc, hB1, hB2⟩)
      have hs_u5 := Lib.hid hb
      have T : u5.cell? ⟨w.heap.size + 1, 0, none⟩ = some (.int .i64 a) ∧ CF u5 (w.heap.size + 1 + 1) 0 (.bool false) ∧ u5.cell? ⟨u4.heap.size, 0, none⟩ = some (.slice lp n lc) := by
          refine ⟨?_, ⟨?_, ?_⟩, ?_⟩ <;> first | (refine kc hb ?_ <;> (go_simp; first | done | rfl)) | (refine kfz hb ?_ ?_ <;> first | (go_size; done) | (go_simp; done))
      have hz := hb.size
      (try simp only [World.size_alloc, World.size_setCell, World.size_drew] at hz)
      have L : w.heap.size + 1 < u5.heap.size ∧ w.heap.size + 1 + 1 < u5.heap.size ∧ u4.heap.size < u5.heap.size := by omega
      have hB' : Below w.heap.size w u5 := by
          refine kb ?_ hb
          go_grown
      clear hp_0 hp_1 hp_2 hp_3 hm_0 hr_0 fr_0 hlp hlm hlr hnp0 hnp1 hkp1 hnp2 hkp2 hnm0 hkm1 hnr0 hkr1 hB hsz
      clear hb hz
      obtain ⟨hm_0, ⟨hr_0, fr_0⟩, hlb_0⟩ := T
      obtain ⟨hlm, hlr, hllb⟩ := L
      obtain ⟨hnm0, hnm1, hkm1, hnm2, hkm2⟩ := ap1f hlm
      have hnr0 : ¬ (w.heap.size + 1 + 1 = u5.heap.size) := by omega
      have hkr1 : w.heap.size + 1 < u5.heap.size := by omega
      obtain ⟨hnlb0, hnlb1, hklb1, hnlb2, hklb2⟩ := ap0 hllb
      have hB := hB'; clear hB'
      have hsz := hB.size
      have hb45 : Below u4.heap.size u4 u5 := ((Below.refl _ u4).alloc (Nat.le_refl _) _).trans (hs_u5.out.mono (by simp))
      have HT5 := Lib.hid (HT4.out.below hb45)
      have HLD5 := Lib.hid (HLD.out.below hb45)
      have HBc := Lib.hid hBc
      simp only [World.size_alloc] at hB1
      have q0 := fun W => all_not_nil B W
      unfold allF at q0 ⊢
      clear hBc HT4 hb45 HLD
      have htl := HT5.out.lt
      go_upto_region 12 with fail
      go_upto_if 46 with fail
      obtain ⟨C0, hC0⟩ : ∃ C, decide (0 < n) = C := ⟨_, rfl⟩
      rw [hC0]
      have HC0 := Lib.hid hC0
      clear hC0
      go_cut [] from 47 to 51 (fun wx => wx.cell? ⟨u5.heap.size, 0, none⟩ = some (.int .i64 0) ∧ wx.frozen? ⟨u5.heap.size, 0, none⟩ = false ∧ wx.cell? ⟨u5.heap.size + 1, 0, none⟩ = some (.int .i64 (firstT l)) ∧ wx.frozen? ⟨u5.heap.size + 1, 0, none⟩ = false ∧ wx.heap.size = u5.heap.size + 2 ∧ Below u5.heap.size u5 wx)
      case first =>
        cases C0
        · have HFT := Lib.hid (show firstT l = 0 from by unfold firstT; rw [if_neg (by have := HN.out; have := of_decide_eq_false HC0.out; omega)])
          go_wp2_with fail
          go_meet
          rw [HFT.out]
          exact ⟨by go_simp, by go_simp, by go_simp, by go_simp, by simp, by go_grown⟩
        · have hn0 : 0 < n := of_decide_eq_true HC0.out
          have hl0 : 0 < l.length := by have := HN.out; omega
          have h0 : (0 : Int) < (n : Int) := by omega
          have HFT := Lib.hid (show firstT l = l[0].f from by unfold firstT; rw [if_pos hl0, getElem!_pos l 0 hl0])
          obtain ⟨g, o, cap, e1, hcap, hcc⟩ := HLD5.out.some hl0
          obtain ⟨rfl, n1, rfl⟩ := Value.slice.inj e1
          obtain ⟨x0, -, -⟩ := get3d hcc (List.getElem?_eq_getElem hl0)
          rw [Nat.zero_mul, Nat.add_zero] at x0
          have hgl := klt x0
          clear e1 n1 hcc
          generalize l[0].f = f0 at *
          go_wp2_with fail
          go_meet
          rw [HFT.out]
          exact ⟨by go_simp, by go_simp, by go_simp, by go_simp, by simp, by go_grown⟩
      case rest =>
        obtain ⟨wd, hwd⟩ : ∃ W, W = wc := ⟨_, rfl⟩
        rw [← hwd] at hcut ⊢
        clear hwd
        obtain ⟨hci, hfi, hcx, hfx, hzd, hBd⟩ := hcut
        have HB5 := Lib.hid hB
        have HSM := Lib.hid (And.intro hm_0 (And.intro (And.intro hr_0 fr_0) hlb_0))
        have HCI := Lib.hid (And.intro (And.intro hci hfi) (And.intro hcx hfx))
        have HBd := Lib.hid hBd
        have hlm5 : w.heap.size + 1 + 1 < u5.heap.size := klt hr_0
        have hllb : u4.heap.size < u5.heap.size := klt hlb_0
        have hlw5 := HB5.out.size
        clear hci hfi hcx hfx hBd hB hsz
        clear hm_0 hr_0 fr_0 hlb_0
        go_wp2_with fail
        obtain ⟨Wl, hWl⟩ : ∃ W, wd.alloc (.cells #[.int .i64 0] 3) = W := ⟨_, rfl⟩
        have hBl : Below wd.heap.size wd Wl := by rw [← hWl]; exact (Below.refl _ _).alloc (Nat.le_refl _) _
        have hnn : Nc (u5.heap.size + 2) 0 Wl := by
          rw [← hWl, ← hzd]
          exact nc_new wd 0 _
        have hzl : Wl.heap.size = u5.heap.size + 3 := by rw [← hWl]; simp; omega
        rw [hWl]
        have HCW := Lib.hid (And.intro (show Nc u5.heap.size ((0 : Nat) : Int) Wl from ⟨kc hBl HCI.out.1.1, kfz hBl (klt HCI.out.1.1) HCI.out.1.2⟩) (And.intro (show Nc (u5.heap.size + 1) (firstT l) Wl from ⟨kc hBl HCI.out.2.1, kfz hBl (klt HCI.out.2.1) HCI.out.2.2⟩) hnn))
        have HBl := Lib.hid (show Below u5.heap.size u5 Wl from HBd.out.trans (hBl.mono HBd.out.size))
        have HTl := Lib.hid (HT5.out.below HBl.out)
        clear hWl hBl hnn hzd HCI HBd HC0 HFW HNW HPL HSO
        refine wpIn_rangeA (n := 4) (S := bitsR P.s) (by decide) (gf := 29) (lb := #[.pointer (some ⟨B, 0, none⟩)]) rfl (enters_of Try.func29 (by kernel_rfl) rfl) 52 53 12 13 B tb
          (allp_stops (4 - 1) (by decide) B tb P Wl (kc HBl.out HBc.out) HTl.out) (by omega) HTl.out.lt rfl
          (fun pre W => ((stT (bitsR P.s) l pre).1 = true ∧ Nc u5.heap.size ((stT (bitsR P.s) l pre).2.1 : Int) W ∧ Nc (u5.heap.size + 1) (stT (bitsR P.s) l pre).2.2 W ∧ Nc (u5.heap.size + 2) (pre.length : Int) W) ∧ Below u5.heap.size u5 W)
          (fun c pre W => c = .ret ∧ ((stT (bitsR P.s) l pre).1 = false ∨ OutR w (w.heap.size + 1 + 1) (.bool true) W))
          (OwnFrom.and (Own.from (fun s A C row hs hg hr => ⟨hs.1, Nc.own _ (fun pre => ((stT (bitsR P.s) l pre).2.1 : Int)) s A C row hs.2.1 hg hr, Nc.own _ (fun pre => (stT (bitsR P.s) l pre).2.2) s A C row hs.2.2.1 hg hr, Nc.own _ (fun pre : List (AdB (bitsR P.s)) => (pre.length : Int)) s A C row hs.2.2.2 hg hr⟩) _) (ownFrom_below (Nat.le_refl _) (by omega)))
          (fun c => fun s A C row hs hg hr => ⟨hs.1, hs.2.imp id fun h => OutR.own (.bool true) (by omega) s A C row h hg hr⟩)
          ⟨⟨rfl, HCW.out.1, HCW.out.2.1, HCW.out.2.2⟩, HBl.out⟩ ?assign ?body ?done ?stop
        case assign =>
          rintro l1 pre x W K hI hK
          dsimp only [encB]
          gi_wp2
          exact hK _ _ ((KeepsOthers.refl _).from _) (Kq.refl _) hI rfl
        case stop =>
          rintro Dd c k W hDd hk ⟨rfl, hbad | hout⟩ hK
          · rw [(invT_up HSL.out HGL.out HSB.out k hk).ok] at hbad
            cases hbad
          · have HF := Lib.hid (show FinR w (w.heap.size + 1 + 1) Dd (.bool true) W from ⟨hout.1.1, hout.1.2, hK, hout.2⟩)
            have hDw : w.heap.size ≤ Dd := by omega
            clear hout hK
            gi_wp2
            obtain ⟨d3, hB3⟩ := HF.out.over hDw
            exact ⟨by simp, .inl ⟨_, _, rfl, run_takeDeferred HF.out.d, .bool true, by simp [results, Try.results4, go_sem, d3], rfl, hB3⟩⟩
        case done =>
          rintro Dd W hDd ⟨⟨hs, hni, hnx, hnn⟩, hBW⟩ hK
          rw [stT_end HSL.out HGL.out HSB.out, HN.out] at hni
          have hni_0 := hni.1
          have hlb_0 := kc hBW HSM.out.2.2
          have HF := Lib.hid (show FinR w (w.heap.size + 1 + 1) Dd (.bool false) W from ⟨kc hBW HSM.out.2.1.1, kfz hBW (klt HSM.out.2.1.1) HSM.out.2.1.2, hK, kb HB5.out hBW⟩)
          have hDw : w.heap.size ≤ Dd := by omega
          clear hs hnx hnn hBW hK hni
          go_wp2_with fail
          refine (awake9_c _).mono ?_
          rintro _ y1 ⟨rfl, hb⟩
          have HF2 := Lib.hid (HF.out.below hb)
          have hc := HF2.out.c
          have hf := HF2.out.f
          clear hb HF hni_0 hlb_0
          go_wp2
          have HF3 := HF2.out.set (by omega) (.bool true)
          obtain ⟨d3, hB3⟩ := HF3.over hDw
          exact ⟨by simp, .inl ⟨_, _, rfl, run_takeDeferred HF3.d, .bool true, by simp [results, Try.results4, go_sem, d3], rfl, hB3⟩⟩
        case body =>
          rintro l1 pre x W hl1 ⟨r1, hr1⟩ ⟨⟨hs, hni, hnx, hnn⟩, hBW⟩ hlen
          have HSN := Lib.hid (stT_snoc (bitsR P.s) l pre x)
          have hle := stT_le pre hs
          obtain ⟨i, hi0⟩ : ∃ i, (stT (bitsR P.s) l pre).2.1 = i := ⟨_, rfl⟩
          obtain ⟨nx, hx0⟩ : ∃ i, (stT (bitsR P.s) l pre).2.2 = i := ⟨_, rfl⟩
          obtain ⟨c, hc0⟩ : ∃ c, pre.length = c := ⟨_, rfl⟩
          rw [hi0] at hni hle
          rw [hx0] at hnx
          rw [hc0] at hnn hlen
          have HST := Lib.hid (show stT (bitsR P.s) l pre = (true, i, nx) from by rw [← hi0, ← hx0, ← hs])
          rw [HST.out] at HSN
          have HPL := Lib.hid (show ((pre ++ [x]).length : Int) = (c : Int) + 1 from by rw [List.length_append, hc0]; rfl)
          have hS0 : St9 u5 B tb W W i nx c := ⟨hni, hnx, hnn, KeepsOthers.refl _, Kq.refl _, hBW⟩
          have HS0 := Lib.hid hS0
          have hxr := x.2.1
          clear hs hi0 hx0 hc0 hS0
          have hii_0 := hni.1
          have hxx_0 := hnx.1
          have hnn_0 := hnn.1
          have fii_0 := hni.2
          have fxx_0 := hnx.2
          have fnn_0 := hnn.2
          have hll_0 := kc hBW HSM.out.2.2
          have hmm_0 := kc hBW HSM.out.1
          have hrr_0 := kc hBW HSM.out.2.1.1
          have frr_0 := kfz hBW (klt HSM.out.2.1.1) HSM.out.2.1.2
          have hlt0 := klt hii_0
          have hlt1 := klt hxx_0
          have hlt2 := klt hnn_0
          have hltr := klt hrr_0
          have hltl := klt hll_0
          have hszl := hBW.size
          have HBW := Lib.hid hBW
          have HLDW := Lib.hid (HLD5.out.below hBW)
          dsimp only [actA, encB]
          have hb3 : IntKind.i64.wrap (bitsR P.s ((x.1 : Nat) : Int)) = bitsR P.s ((x.1 : Nat) : Int) := IntWalk.i64_in _ (by have := bits_u8 HB8.out.1 ((x.1 : Nat) : Int); omega)
          have hkb : 0 ≤ ((x.1 : Nat) : Int) ∧ ((x.1 : Nat) : Int) < 65536 := by omega
          generalize ((x.1 : Nat) : Int) = k at *
          generalize bitsR P.s k = b at *
          clear hni hnx hnn hBW hxr
          have hbad : ∀ {M : Bool × Nat × Int}, stT (bitsR P.s) l (pre ++ [x]) = M → M.1 = false → (stT (bitsR P.s) l (pre ++ [x])).1 = false := fun h g => by rw [h]; exact g
          by_cases hin : i < n
          · have hil : i < l.length := by have := HN.out; omega
            obtain ⟨g, o, cap, e1, hcap, hcc⟩ := HLD5.out.some (by omega)
            obtain ⟨rfl, n1, rfl⟩ := Value.slice.inj e1
            clear e1 n1
            obtain ⟨x0, x1, x2⟩ := get3d hcc (List.getElem?_eq_getElem hil)
            have HCC := Lib.hid hcc
            have hst := HSN.out
            unfold stepT at hst
            dsimp only at hst
            rw [getElem!_pos l i hil] at hst
            have hix : (0 : Int) ≤ (i : Int) ∧ (i : Int) < (n : Int) := by omega
            have hge : ¬ (n : Int) ≤ (i : Int) := by omega
            generalize l[i] = y at *
            obtain ⟨yf, yt, yb⟩ := y
            dsimp only at x0 x1 x2 hst
            have hg5 : g < u5.heap.size := klt x0
            have HX := Lib.hid (And.intro x0 (And.intro x1 x2))
            have x0 := kc HBW.out x0
            have x1 := kc HBW.out x1
            have x2 := kc HBW.out x2
            have hgl := klt x0
            by_cases c1 : k = nx
            · have d1 : (k != nx) = false := by simp [c1]
              by_cases c2 : b = yb
              · have d2 : (b != yb) = false := by simp [c2]
                rw [if_pos ⟨hil, c1, c2⟩] at hst
                have hnk : 0 ≤ nx ∧ nx < 65536 := by omega
                have hw1 : IntKind.i64.wrap ((c : Int) + 1) = (c : Int) + 1 := IntWalk.i64_in _ (by omega)
                have hw2 : IntKind.i64.wrap (nx + 1) = nx + 1 := IntWalk.i64_in _ (by omega)
                have hw3 : IntKind.i64.wrap ((i : Int) + 1) = (i : Int) + 1 := IntWalk.i64_in _ (by omega)
                have HST2 := Lib.hid hst
                have HIN := Lib.hid hin
                have hBu : B < u5.heap.size := hB2
                clear c1 c2 hst hin hkb hnk hcc HSN HST
                gi_upto_region 22 with fail
                have HS2 := Lib.hid ((HS0.out.setN hBu htl ((c : Int) + 1)).setX hBu htl (nx + 1))
                obtain ⟨W2, hW2⟩ : ∃ X, (W.setCell ⟨u5.heap.size + 2, 0, none⟩ (.int .i64 ((c : Int) + 1))).setCell ⟨u5.heap.size + 1, 0, none⟩ (.int .i64 (nx + 1)) = X := ⟨_, rfl⟩
                rw [hW2] at HS2 ⊢
                clear hW2
                clear hii_0 hxx_0 hnn_0 fii_0 fxx_0 fnn_0 hll_0 hmm_0 hrr_0 frr_0 x0 x1 x2 HS0
                have hB : Below W2.heap.size W2 W2 := Below.refl _ _
                have hsz := hB.size
                have hz2 := HS2.out.b.size
                have yi := HS2.out.i.1
                have yx := HS2.out.x.1
                have yl := kc HS2.out.b HSM.out.2.2
                have y1 := kc HS2.out.b HX.out.2.1
                have hlii := klt yi
                have hlxx := klt yx
                have hlll := klt yl
                have hlsp := klt y1
                have hii_0 := yi
                have hxx_0 := yx
                have hll_0 := yl
                have hsp_0 := y1
                clear yi yx yl y1
                gi_wp2_with fail
                refine wpIn_region_plan (fun w' => w'.cell? ⟨u5.heap.size, 0, none⟩ = some (.int .i64 (i : Int)) ∧ w'.cell? ⟨u5.heap.size + 1, 0, none⟩ = some (.int .i64 (nx + 1)) ∧ w'.cell? ⟨u4.heap.size, 0, none⟩ = some (.slice (some ⟨g, o, none⟩) n lc) ∧ w'.cell? ⟨g, o + i * 3 + 1, none⟩ = some (.int .i64 yt) ∧ Below W2.heap.size W2 w') (by kernel_rfl) (by kernel_rfl) (by kernel_rfl) (by kernel_rfl) ?_ ?_
                · (try dsimp only)
                  refine ⟨?_, ?_, ?_, ?_, ?_⟩ <;> first | (go_simp; done) | (simp [*]; done) | go_grown
                repeat (first
                  | (refine Plan.val (v := ?_) ?_ ?_ ?_; rotate_left; (· rfl); (· (intro W hSw; (try dsimp only at hSw); go_simp; all_goals (first | (with_reducible rfl) | (constructor <;> (with_reducible rfl)) | (rw [if_neg (by omega)]; done) | (rw [if_neg (by omega)]; with_reducible rfl)))); (try simp only [Act.put, List.setIfInBounds_toArray, List.set_cons_zero, List.set_cons_succ]))
                  | (refine Plan.no ?_ ?_; (· rfl); (try simp only [Act.put, List.setIfInBounds_toArray, List.set_cons_zero, List.set_cons_succ])))
                refine Plan.done ?_
                intro y2 T
                (try dsimp only at T)
                obtain ⟨hii_0, hxx_0, hll_0, hsp_0, hB⟩ := T
                have hsz := hB.size
                have hlii := klt hii_0
                have hlxx := klt hxx_0
                have hlll := klt hll_0
                have hlsp := klt hsp_0
                obtain ⟨hnii0, hnii1, hkii1, hnii2, hkii2⟩ := ap0 hlii
                obtain ⟨hnxx0, hkxx1⟩ := ap1 hlxx
                obtain ⟨hnll0, hnll1, hkll1, hnll2, hkll2⟩ := ap0 hlll
                obtain ⟨hnsp0, hnsp1, hksp1, hnsp2, hksp2⟩ := ap0 hlsp
                have HS2b := Lib.hid (HS2.out.below hB hBu htl)
                clear hB hsz HS2
                have HS2 := HS2b
                clear HS2b
                have fii_0 := HS2.out.i.2
                have fxx_0 := HS2.out.x.2
                have hhst := HST2.out
                by_cases ht : yt < nx + 1
                · rw [if_pos ht] at hhst
                  by_cases hin2 : i + 1 < n
                  · have hil2 : i + 1 < l.length := by have := HN.out; omega
                    obtain ⟨z0, -, -⟩ := get3d HCC.out (List.getElem?_eq_getElem hil2)
                    rw [if_pos hil2, getElem!_pos l (i + 1) hil2] at hhst
                    generalize l[i + 1] = y3 at *
                    have z0 := kc HS2.out.b z0
                    have hgz := klt z0
                    rw [show o + (i + 1) * 3 = o + (i + 1) * 3 from rfl] at z0
                    have hin3 : (0 : Int) ≤ (i : Int) + 1 ∧ (i : Int) + 1 < (n : Int) := by omega
                    have HM := Lib.hid hhst
                    clear hhst hin2
                    gi_upto_region 26 with fail
                    have HS3 := Lib.hid (show St9 u5 B tb W ((y2.setCell ⟨u5.heap.size, 0, none⟩ (.int .i64 ((i : Int) + 1))).setCell ⟨u5.heap.size + 1, 0, none⟩ (.int .i64 y3.f)) (i + 1) y3.f ((c : Int) + 1) from (HS2.out.setI hBu htl (i + 1)).setX hBu htl y3.f)
                    obtain ⟨W3, hW3⟩ : ∃ X, (y2.setCell ⟨u5.heap.size, 0, none⟩ (.int .i64 ((i : Int) + 1))).setCell ⟨u5.heap.size + 1, 0, none⟩ (.int .i64 y3.f) = X := ⟨_, rfl⟩
                    rw [hW3] at HS3 ⊢
                    clear hW3 HS2 fii_0 fxx_0 hii_0 hxx_0 hll_0 hsp_0 z0
                    have hmm_0 := kc HS3.out.b HSM.out.1
                    have hnn_0 := HS3.out.n.1
                    have hrr_0 := kc HS3.out.b HSM.out.2.1.1
                    have frr_0 := kfz HS3.out.b (klt HSM.out.2.1.1) HSM.out.2.1.2
                    have fnn_0 := HS3.out.n.2
                    have hltr := klt hrr_0
                    cases hE : ((c : Int) + 1 == a)
                    · gi_wp2
                      refine ⟨HS3.out.k.from _, HS3.out.q, ⟨⟨by rw [HM.out], ?_, ?_, ?_⟩, HS3.out.b⟩⟩
                      · rw [HM.out]; exact HS3.out.i
                      · rw [HM.out]; exact HS3.out.x
                      · rw [HPL.out]; exact HS3.out.n
                    · gi_wp2_with fail
                      refine ⟨trivial, ?_⟩
                      gi_at_call 6
                      refine (callsIn_wide.2 (awake9_c _)).mono ?_
                      rintro _ y4 ⟨rfl, hb⟩
                      have HS4 := Lib.hid (HS3.out.below hb hBu htl)
                      have hr4 := kc hb hrr_0
                      have fr4 := kfz hb (klt hrr_0) frr_0
                      clear hb HS3
                      gi_wp2
                      have hb4 : Below w.heap.size w y4 := kb HB5.out HS4.out.b
                      exact ⟨(HS4.out.k.trans (KeepsOthers.setCell _ _ _)).from _, rfl, .inr ⟨⟨World.cell?_setCell_same _ _ _ hr4, by rw [World.frozen?_setCell]; exact fr4⟩, hb4.setCell (p := ⟨w.heap.size + 1 + 1, 0, none⟩) (by show w.heap.size ≤ w.heap.size + 1 + 1; omega) _⟩⟩
                  · have hge2 : ¬ ((i : Int) + 1 < (n : Int)) := by omega
                    rw [if_neg (by have := HN.out; omega)] at hhst
                    have HM := Lib.hid hhst
                    clear hhst hin2
                    gi_upto_region 26 with fail
                    have HS3 := Lib.hid (show St9 u5 B tb W (y2.setCell ⟨u5.heap.size, 0, none⟩ (.int .i64 ((i : Int) + 1))) (i + 1) (nx + 1) ((c : Int) + 1) from HS2.out.setI hBu htl (i + 1))
                    obtain ⟨W3, hW3⟩ : ∃ X, y2.setCell ⟨u5.heap.size, 0, none⟩ (.int .i64 ((i : Int) + 1)) = X := ⟨_, rfl⟩
                    rw [hW3] at HS3 ⊢
                    clear hW3 HS2 fii_0 fxx_0 hii_0 hxx_0 hll_0 hsp_0
                    have hmm_0 := kc HS3.out.b HSM.out.1
                    have hnn_0 := HS3.out.n.1
                    have hrr_0 := kc HS3.out.b HSM.out.2.1.1
                    have frr_0 := kfz HS3.out.b (klt HSM.out.2.1.1) HSM.out.2.1.2
                    have fnn_0 := HS3.out.n.2
                    have hltr := klt hrr_0
                    cases hE : ((c : Int) + 1 == a)
                    · gi_wp2
                      refine ⟨HS3.out.k.from _, HS3.out.q, ⟨⟨by rw [HM.out], ?_, ?_, ?_⟩, HS3.out.b⟩⟩
                      · rw [HM.out]; exact HS3.out.i
                      · rw [HM.out]; exact HS3.out.x
                      · rw [HPL.out]; exact HS3.out.n
                    · gi_wp2_with fail
                      refine ⟨trivial, ?_⟩
                      gi_at_call 6
                      refine (callsIn_wide.2 (awake9_c _)).mono ?_
                      rintro _ y4 ⟨rfl, hb⟩
                      have HS4 := Lib.hid (HS3.out.below hb hBu htl)
                      have hr4 := kc hb hrr_0
                      have fr4 := kfz hb (klt hrr_0) frr_0
                      clear hb HS3
                      gi_wp2
                      have hb4 : Below w.heap.size w y4 := kb HB5.out HS4.out.b
                      exact ⟨(HS4.out.k.trans (KeepsOthers.setCell _ _ _)).from _, rfl, .inr ⟨⟨World.cell?_setCell_same _ _ _ hr4, by rw [World.frozen?_setCell]; exact fr4⟩, hb4.setCell (p := ⟨w.heap.size + 1 + 1, 0, none⟩) (by show w.heap.size ≤ w.heap.size + 1 + 1; omega) _⟩⟩
                · rw [if_neg ht] at hhst
                  have HM := Lib.hid hhst
                  have HS3 := HS2
                  clear HS2 hhst
                  gi_upto_region 26 with fail
                  have hmm_0 := kc HS3.out.b HSM.out.1
                  have hnn_0 := HS3.out.n.1
                  have hrr_0 := kc HS3.out.b HSM.out.2.1.1
                  have frr_0 := kfz HS3.out.b (klt HSM.out.2.1.1) HSM.out.2.1.2
                  have fnn_0 := HS3.out.n.2
                  have hltr := klt hrr_0
                  cases hE : ((c : Int) + 1 == a)
                  · gi_wp2
                    refine ⟨HS3.out.k.from _, HS3.out.q, ⟨⟨by rw [HM.out], ?_, ?_, ?_⟩, HS3.out.b⟩⟩
                    · rw [HM.out]; exact HS3.out.i
                    · rw [HM.out]; exact HS3.out.x
                    · rw [HPL.out]; exact HS3.out.n
                  · gi_wp2_with fail
                    refine ⟨trivial, ?_⟩
                    gi_at_call 6
                    refine (callsIn_wide.2 (awake9_c _)).mono ?_
                    rintro _ y4 ⟨rfl, hb⟩
                    have HS4 := Lib.hid (HS3.out.below hb hBu htl)
                    have hr4 := kc hb hrr_0
                    have fr4 := kfz hb (klt hrr_0) frr_0
                    clear hb HS3
                    gi_wp2
                    have hb4 : Below w.heap.size w y4 := kb HB5.out HS4.out.b
                    exact ⟨(HS4.out.k.trans (KeepsOthers.setCell _ _ _)).from _, rfl, .inr ⟨⟨World.cell?_setCell_same _ _ _ hr4, by rw [World.frozen?_setCell]; exact fr4⟩, hb4.setCell (p := ⟨w.heap.size + 1 + 1, 0, none⟩) (by show w.heap.size ≤ w.heap.size + 1 + 1; omega) _⟩⟩
              · have d2 : (b != yb) = true := by simpa using c2
                have HBD := Lib.hid (show (stT (bitsR P.s) l (pre ++ [x])).1 = false from by rw [hst, if_neg (fun h => c2 h.2.2)])
                clear c1 c2 hst hin
                gi_wp2
                exact ⟨(KeepsOthers.setCell _ _ _).from _, rfl, .inl HBD.out⟩
            · have d1 : (k != nx) = true := by simpa using c1
              have HBD := Lib.hid (show (stT (bitsR P.s) l (pre ++ [x])).1 = false from by rw [hst, if_neg (fun h => c1 h.2.1)])
              clear c1 hst hin
              gi_wp2
              exact ⟨(KeepsOthers.setCell _ _ _).from _, rfl, .inl HBD.out⟩
          · have hge : (n : Int) ≤ (i : Int) := by omega
            have HBD := Lib.hid (show (stT (bitsR P.s) l (pre ++ [x])).1 = false from by rw [HSN.out]; unfold stepT; rw [if_neg (by have := HN.out; dsimp only; omega)])
            clear hin
            gi_wp2
            exact ⟨(KeepsOthers.setCell _ _ _).from _, rfl, .inl HBD.out⟩
theorem all_walk9 (P : Pol) (hb8 : Bits P) (v : Value) (a : Int) (hi : -9223372036854775808 ≤ a ∧ a ≤ 9223372036854775807) (w : World) (hv : HoldsP w v P) :
    Calls Try.prog 4 #[v, .int .i64 a] w fun e w' => e = .returned (.bool true) ∧ Below w.heap.size w w' := callsIn_wide.1 (all_in9 P hb8 v a hi w hv)
end Go.Proofs.Ytcilnbkmaoneaaa
