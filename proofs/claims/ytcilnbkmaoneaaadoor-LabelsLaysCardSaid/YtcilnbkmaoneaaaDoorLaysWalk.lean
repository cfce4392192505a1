/-
  LabelsLays: its walk.
-/
import Derived.Test.YtcilnbkmaoneaaaDoorRangeS9
set_option linter.unusedSimpArgs false
set_option linter.unusedVariables false
namespace Go.Proofs.YtcilnbkmaoneaaaDoor
open Go.RowKit Go.PlainAid Go.Shelf
attribute [local go_sem] Oper.semAt_some

theorem eq_byte9 (a b c d : Int) (W : World) : (binOp .neq 42 (.agg #[.int .u8 a, .int .u8 b]) (.agg #[.int .u8 a, .int .u8 b])).run Tryd.prog W = .ok (.bool false) W := by
  simp [go_sem]
theorem nc_new9 (W : World) (v : Int) (T : TypeId) : Nc W.heap.size v (W.alloc (.cells #[.int .i64 v] T)) := by
  have hh := heap_alloc_new W (.cells #[.int .i64 v] T)
  exact ⟨(cell_of_row _ _ _ _ T _ hh).trans rfl, frozen_of_row _ _ _ _ T hh⟩
theorem ownFrom_record {β : Type} {N Dd : Nat} (hD : Dd < N) : OwnFrom N (fun (_ : β) W => W.heap[Dd]? = some (.deferred (some []))) := fun _ A C row hs hg hr =>
  (hg.block Dd (Array.getElem?_eq_some_iff.1 hs).1 (fun e => by have := (hr Dd e.symm).1; omega)).trans hs
set_option maxRecDepth 100000 in
set_option maxHeartbeats 16000000 in
theorem lays_in9 (P : Pol) (hb8 : Bits P) (v : Value) (l : List Ld) (lv : Value) (w : World) (hv : HoldsP w v P) (hlv : HoldsLd w.heap.size w lv l) (hll : l.length ≤ 9223372036854775807) (hlb : ∀ x ∈ l, ∀ y ∈ x.l, 0 ≤ y ∧ y ≤ 255) (hL : Laid w) :
    CallsIn Fence.wide 4 Tryd.prog 3 #[v, lv] w (LawEnd w) := by
  have HFW := Lib.hid (fun W (hb : Below w.heap.size w W) => few7_c P v W (hv.below hb))
  have HFL := Lib.hid (fun W (hb : Below w.heap.size w W) => few9_c w.heap.size l hll lv W (hlv.below hb))
  have HV := Lib.hid hv
  have HLV := Lib.hid hlv
  have HLd := Lib.hid (fun W (hb : Below w.heap.size w W) => hL.below hb)
  have hlt0 := hL.lt
  clear hL
  obtain ⟨v1, v2, rfl, h1, h2⟩ := hv
  refine callsIn_of_wp_marks Tryd.func3 rfl trivial ?_ rfl
  simp only [Tryd.ntmps3, List.size_toArray, List.length_cons, List.length_nil, Nat.reduceAdd, Nat.reduceSub, Array.replicate_succ, Array.replicate_zero, List.push_toArray, List.append_toArray, List.nil_append, List.cons_append]
  refine wpIn_wide.2 ?_
  by_cases hF : P.s.length ≤ 80 ∧ P.k.length ≤ 80
  case neg =>
    have e : (decide (P.s.length ≤ 80) && decide (P.k.length ≤ 80)) = false := by
      cases hh : (decide (P.s.length ≤ 80) && decide (P.k.length ≤ 80))
      · rfl
      · simp only [Bool.and_eq_true, decide_eq_true_eq] at hh; exact absurd hh hF
    rw [e] at HFW
    clear h1 h2 hF e hlv
    go_wp2_with fail
    ((with_reducible refine (HFW.out _ (by go_grown)).mono ?_); rintro _ u1 ⟨rfl, hb⟩)
    have T : CC u1 w.heap.size 0 1 (v1) (v2) ∧ CC u1 w.heap.size 2 3 (.int .i64 P.d) (.int .i64 P.t) ∧ CF u1 (w.heap.size + 1) 0 (.bool false) := by
        refine ⟨⟨?_, ?_⟩, ⟨?_, ?_⟩, ⟨?_, ?_⟩⟩ <;> first | (refine kc hb ?_ <;> (go_simp; first | done | rfl)) | (refine kfz hb ?_ ?_ <;> first | (go_size; done) | (go_simp; done))
    have hz := hb.size
    (try simp only [World.size_alloc, World.size_setCell, World.size_drew] at hz)
    have L : w.heap.size < u1.heap.size ∧ w.heap.size + 1 < u1.heap.size := by omega
    have hB' : Below w.heap.size w u1 := by
        refine kb ?_ hb
        go_grown
    clear hb hz
    obtain ⟨⟨hp_0, hp_1⟩, ⟨hp_2, hp_3⟩, ⟨hr_0, fr_0⟩⟩ := T
    obtain ⟨hlp, hlr⟩ := L
    obtain ⟨hnp0, hnp1, hkp1, hnp2, hkp2⟩ := ap0 hlp
    obtain ⟨hnr0, hkr1⟩ := ap1 hlr
    have hB := hB'; clear hB'
    have hsz := hB.size
    go_wp2_with fail
    ((with_reducible refine (awake9_c _).mono ?_); rintro _ u2 ⟨rfl, hb⟩)
    have T : CC u2 w.heap.size 0 1 (v1) (v2) ∧ CC u2 w.heap.size 2 3 (.int .i64 P.d) (.int .i64 P.t) ∧ CF u2 (w.heap.size + 1) 0 (.bool false) := by
        refine ⟨⟨?_, ?_⟩, ⟨?_, ?_⟩, ⟨?_, ?_⟩⟩ <;> first | (refine kc hb ?_ <;> (go_simp; first | done | rfl)) | (refine kfz hb ?_ ?_ <;> first | (go_size; done) | (go_simp; done))
    have hz := hb.size
    (try simp only [World.size_alloc, World.size_setCell, World.size_drew] at hz)
    have L : w.heap.size < u2.heap.size ∧ w.heap.size + 1 < u2.heap.size := by omega
    have hB' : Below w.heap.size w u2 := by
        refine kb ?_ hb
        go_grown
    clear hp_0 hp_1 hp_2 hp_3 hr_0 fr_0 hlp hlr hnp0 hnp1 hkp1 hnp2 hkp2 hnr0 hkr1 hB hsz
    clear hb hz
    obtain ⟨⟨hp_0, hp_1⟩, ⟨hp_2, hp_3⟩, ⟨hr_0, fr_0⟩⟩ := T
    obtain ⟨hlp, hlr⟩ := L
    obtain ⟨hnp0, hnp1, hkp1, hnp2, hkp2⟩ := ap0 hlp
    obtain ⟨hnr0, hkr1⟩ := ap1 hlr
    have hB := hB'; clear hB'
    have hsz := hB.size
    go_wp2
    refine ⟨.bool true, ?_, rfl, hB.setCell (p := ⟨w.heap.size + 1, 0, none⟩) (by show w.heap.size ≤ w.heap.size + 1; omega) _⟩
    have d3 : (u2.setCell ⟨w.heap.size + 1, 0, none⟩ (.bool true)).cell? ⟨w.heap.size + 1, 0, none⟩ = some (.bool true) := by go_simp
    simp [results, Tryd.results3, go_sem, d3]
  case pos =>
    have e : (decide (P.s.length ≤ 80) && decide (P.k.length ≤ 80)) = true := by simp only [Bool.and_eq_true, decide_eq_true_eq]; exact hF
    rw [e] at HFW
    have hl : P.s.length ≤ 1000 ∧ P.k.length ≤ 1000 := by omega
    have HHL := Lib.hid hl
    have HB8 := Lib.hid hb8
    clear h1 h2 hF e hlv
    cases hfl : fewL l
    · rw [hfl] at HFL
      clear hfl hl hb8
      go_wp2_with fail
      ((with_reducible refine (HFW.out _ (by go_grown)).mono ?_); rintro _ u1 ⟨rfl, hb⟩)
      have T : CC u1 w.heap.size 0 1 (v1) (v2) ∧ CC u1 w.heap.size 2 3 (.int .i64 P.d) (.int .i64 P.t) ∧ CF u1 (w.heap.size + 1) 0 (.bool false) := by
          refine ⟨⟨?_, ?_⟩, ⟨?_, ?_⟩, ⟨?_, ?_⟩⟩ <;> first | (refine kc hb ?_ <;> (go_simp; first | done | rfl)) | (refine kfz hb ?_ ?_ <;> first | (go_size; done) | (go_simp; done))
      have hz := hb.size
      (try simp only [World.size_alloc, World.size_setCell, World.size_drew] at hz)
      have L : w.heap.size < u1.heap.size ∧ w.heap.size + 1 < u1.heap.size := by omega
      have hB' : Below w.heap.size w u1 := by
          refine kb ?_ hb
          go_grown
      clear hb hz
      obtain ⟨⟨hp_0, hp_1⟩, ⟨hp_2, hp_3⟩, ⟨hr_0, fr_0⟩⟩ := T
      obtain ⟨hlp, hlr⟩ := L
      obtain ⟨hnp0, hnp1, hkp1, hnp2, hkp2⟩ := ap0 hlp
      obtain ⟨hnr0, hkr1⟩ := ap1 hlr
      have hB := hB'; clear hB'
      have hsz := hB.size
      go_wp2_with fail
      ((with_reducible refine (HFL.out _ hB).mono ?_); rintro _ u2 ⟨rfl, hb⟩)
      have T : CC u2 w.heap.size 0 1 (v1) (v2) ∧ CC u2 w.heap.size 2 3 (.int .i64 P.d) (.int .i64 P.t) ∧ CF u2 (w.heap.size + 1) 0 (.bool false) := by
          refine ⟨⟨?_, ?_⟩, ⟨?_, ?_⟩, ⟨?_, ?_⟩⟩ <;> first | (refine kc hb ?_ <;> (go_simp; first | done | rfl)) | (refine kfz hb ?_ ?_ <;> first | (go_size; done) | (go_simp; done))
      have hz := hb.size
      (try simp only [World.size_alloc, World.size_setCell, World.size_drew] at hz)
      have L : w.heap.size < u2.heap.size ∧ w.heap.size + 1 < u2.heap.size := by omega
      have hB' : Below w.heap.size w u2 := by
          refine kb ?_ hb
          go_grown
      clear hp_0 hp_1 hp_2 hp_3 hr_0 fr_0 hlp hlr hnp0 hnp1 hkp1 hnp2 hkp2 hnr0 hkr1 hB hsz
      clear hb hz
      obtain ⟨⟨hp_0, hp_1⟩, ⟨hp_2, hp_3⟩, ⟨hr_0, fr_0⟩⟩ := T
      obtain ⟨hlp, hlr⟩ := L
      obtain ⟨hnp0, hnp1, hkp1, hnp2, hkp2⟩ := ap0 hlp
      obtain ⟨hnr0, hkr1⟩ := ap1 hlr
      have hB := hB'; clear hB'
      have hsz := hB.size
      go_wp2_with fail
      ((with_reducible refine (awake9_c _).mono ?_); rintro _ u3 ⟨rfl, hb⟩)
      have T : CC u3 w.heap.size 0 1 (v1) (v2) ∧ CC u3 w.heap.size 2 3 (.int .i64 P.d) (.int .i64 P.t) ∧ CF u3 (w.heap.size + 1) 0 (.bool false) := by
          refine ⟨⟨?_, ?_⟩, ⟨?_, ?_⟩, ⟨?_, ?_⟩⟩ <;> first | (refine kc hb ?_ <;> (go_simp; first | done | rfl)) | (refine kfz hb ?_ ?_ <;> first | (go_size; done) | (go_simp; done))
      have hz := hb.size
      (try simp only [World.size_alloc, World.size_setCell, World.size_drew] at hz)
      have L : w.heap.size < u3.heap.size ∧ w.heap.size + 1 < u3.heap.size := by omega
      have hB' : Below w.heap.size w u3 := by
          refine kb ?_ hb
          go_grown
      clear hp_0 hp_1 hp_2 hp_3 hr_0 fr_0 hlp hlr hnp0 hnp1 hkp1 hnp2 hkp2 hnr0 hkr1 hB hsz
      clear hb hz
      obtain ⟨⟨hp_0, hp_1⟩, ⟨hp_2, hp_3⟩, ⟨hr_0, fr_0⟩⟩ := T
      obtain ⟨hlp, hlr⟩ := L
      obtain ⟨hnp0, hnp1, hkp1, hnp2, hkp2⟩ := ap0 hlp
      obtain ⟨hnr0, hkr1⟩ := ap1 hlr
      have hB := hB'; clear hB'
      have hsz := hB.size
      go_wp2
      refine ⟨.bool true, ?_, rfl, hB.setCell (p := ⟨w.heap.size + 1, 0, none⟩) (by show w.heap.size ≤ w.heap.size + 1; omega) _⟩
      have d3 : (u3.setCell ⟨w.heap.size + 1, 0, none⟩ (.bool true)).cell? ⟨w.heap.size + 1, 0, none⟩ = some (.bool true) := by go_simp
      simp [results, Tryd.results3, go_sem, d3]
    · rw [hfl] at HFL
      have hfew : ∀ x ∈ l, x.l.length ≤ 100000 := fun x hx => by
        unfold fewL at hfl
        rw [Bool.and_eq_true] at hfl
        have := of_decide_eq_true (List.all_eq_true.1 hfl.1 x hx)
        omega
      have HLO := Lib.hid (fun W (hb : Below w.heap.size w W) => loaded_c l hll hfew lv w.heap.size W (HLV.out.below hb) hb.size (HLd.out W hb))
      have HPLn := Lib.hid (Pl.loads (l := l) hlb Pl.zero)
      clear hfl hfew hb8
      generalize loadsM zeroM l = M at *
      by_cases hc : checkM P = 0
      case neg =>
        have HNW := Lib.hid (fun W (hb : Below w.heap.size w W) => newt_bad P hl _ W (HV.out.below hb) hc)
        have HCK := Lib.hid (fun W (hb : Below w.heap.size w W) => check_c P hl _ W (HV.out.below hb))
        generalize checkM P = E at *
        have e1 : (E == 0) = false := by simpa using hc
        have e2 : (E != 0) = true := by simp [bne, e1]
        clear hc hl
        go_wp2_with fail
        ((with_reducible refine (HFW.out _ (by go_grown)).mono ?_); rintro _ u1 ⟨rfl, hb⟩)
        have T : CC u1 w.heap.size 0 1 (v1) (v2) ∧ CC u1 w.heap.size 2 3 (.int .i64 P.d) (.int .i64 P.t) ∧ CF u1 (w.heap.size + 1) 0 (.bool false) := by
            refine ⟨⟨?_, ?_⟩, ⟨?_, ?_⟩, ⟨?_, ?_⟩⟩ <;> first | (refine kc hb ?_ <;> (go_simp; first | done | rfl)) | (refine kfz hb ?_ ?_ <;> first | (go_size; done) | (go_simp; done))
        have hz := hb.size
        (try simp only [World.size_alloc, World.size_setCell, World.size_drew] at hz)
        have L : w.heap.size < u1.heap.size ∧ w.heap.size + 1 < u1.heap.size := by omega
        have hB' : Below w.heap.size w u1 := by
            refine kb ?_ hb
            go_grown
        clear hb hz
        obtain ⟨⟨hp_0, hp_1⟩, ⟨hp_2, hp_3⟩, ⟨hr_0, fr_0⟩⟩ := T
        obtain ⟨hlp, hlr⟩ := L
        obtain ⟨hnp0, hnp1, hkp1, hnp2, hkp2⟩ := ap0 hlp
        obtain ⟨hnr0, hkr1⟩ := ap1 hlr
        have hB := hB'; clear hB'
        have hsz := hB.size
        go_wp2_with fail
        ((with_reducible refine (HFL.out _ hB).mono ?_); rintro _ u2 ⟨rfl, hb⟩)
        have T : CC u2 w.heap.size 0 1 (v1) (v2) ∧ CC u2 w.heap.size 2 3 (.int .i64 P.d) (.int .i64 P.t) ∧ CF u2 (w.heap.size + 1) 0 (.bool false) := by
            refine ⟨⟨?_, ?_⟩, ⟨?_, ?_⟩, ⟨?_, ?_⟩⟩ <;> first | (refine kc hb ?_ <;> (go_simp; first | done | rfl)) | (refine kfz hb ?_ ?_ <;> first | (go_size; done) | (go_simp; done))
        have hz := hb.size
        (try simp only [World.size_alloc, World.size_setCell, World.size_drew] at hz)
        have L : w.heap.size < u2.heap.size ∧ w.heap.size + 1 < u2.heap.size := by omega
        have hB' : Below w.heap.size w u2 := by
            refine kb ?_ hb
            go_grown
        clear hp_0 hp_1 hp_2 hp_3 hr_0 fr_0 hlp hlr hnp0 hnp1 hkp1 hnp2 hkp2 hnr0 hkr1 hB hsz
        clear hb hz
        obtain ⟨⟨hp_0, hp_1⟩, ⟨hp_2, hp_3⟩, ⟨hr_0, fr_0⟩⟩ := T
        obtain ⟨hlp, hlr⟩ := L
        obtain ⟨hnp0, hnp1, hkp1, hnp2, hkp2⟩ := ap0 hlp
        obtain ⟨hnr0, hkr1⟩ := ap1 hlr
        have hB := hB'; clear hB'
        have hsz := hB.size
        go_wp2_with fail
        ((with_reducible refine (HNW.out _ hB).mono ?_); rintro _ u3 ⟨rfl, hb⟩)
        have T : CC u3 w.heap.size 0 1 (v1) (v2) ∧ CC u3 w.heap.size 2 3 (.int .i64 P.d) (.int .i64 P.t) ∧ CF u3 (w.heap.size + 1) 0 (.bool false) := by
            refine ⟨⟨?_, ?_⟩, ⟨?_, ?_⟩, ⟨?_, ?_⟩⟩ <;> first | (refine kc hb ?_ <;> (go_simp; first | done | rfl)) | (refine kfz hb ?_ ?_ <;> first | (go_size; done) | (go_simp; done))
        have hz := hb.size
        (try simp only [World.size_alloc, World.size_setCell, World.size_drew] at hz)
        have L : w.heap.size < u3.heap.size ∧ w.heap.size + 1 < u3.heap.size := by omega
        have hB' : Below w.heap.size w u3 := by
            refine kb ?_ hb
            go_grown
        clear hp_0 hp_1 hp_2 hp_3 hr_0 fr_0 hlp hlr hnp0 hnp1 hkp1 hnp2 hkp2 hnr0 hkr1 hB hsz
        clear hb hz
        obtain ⟨⟨hp_0, hp_1⟩, ⟨hp_2, hp_3⟩, ⟨hr_0, fr_0⟩⟩ := T
        obtain ⟨hlp, hlr⟩ := L
        obtain ⟨hnp0, hnp1, hkp1, hnp2, hkp2⟩ := ap0 hlp
        obtain ⟨hnr0, hkr1⟩ := ap1 hlr
        have hB := hB'; clear hB'
        have hsz := hB.size
        go_wp2_with fail
        ((with_reducible refine (HLO.out _ (by go_grown)).mono ?_); rintro _ u4 ⟨mb, bb, rfl, hb, hP, hmb, hbb⟩)
        have hs_u4 := Lib.hid hb
        have T : CC u4 w.heap.size 0 1 (v1) (v2) ∧ CC u4 w.heap.size 2 3 (.int .i64 P.d) (.int .i64 P.t) ∧ CF u4 (w.heap.size + 1) 0 (.bool false) := by
            refine ⟨⟨?_, ?_⟩, ⟨?_, ?_⟩, ⟨?_, ?_⟩⟩ <;> first | (refine kc hb ?_ <;> (go_simp; first | done | rfl)) | (refine kfz hb ?_ ?_ <;> first | (go_size; done) | (go_simp; done))
        have hz := hb.size
        (try simp only [World.size_alloc, World.size_setCell, World.size_drew] at hz)
        have L : w.heap.size < u4.heap.size ∧ w.heap.size + 1 < u4.heap.size := by omega
        have hB' : Below w.heap.size w u4 := by
            refine kb ?_ hb
            go_grown
        clear hp_0 hp_1 hp_2 hp_3 hr_0 fr_0 hlp hlr hnp0 hnp1 hkp1 hnp2 hkp2 hnr0 hkr1 hB hsz
        clear hb hz
        obtain ⟨⟨hp_0, hp_1⟩, ⟨hp_2, hp_3⟩, ⟨hr_0, fr_0⟩⟩ := T
        obtain ⟨hlp, hlr⟩ := L
        obtain ⟨hnp0, hnp1, hkp1, hnp2, hkp2⟩ := ap0 hlp
        obtain ⟨hnr0, hkr1⟩ := ap1 hlr
        have hB := hB'; clear hB'
        have hsz := hB.size
        clear hP hmb hbb
        go_wp2_with fail
        ((with_reducible refine (HLO.out _ (by go_grown)).mono ?_); rintro _ u5 ⟨ob, obb, rfl, hb, hP, hmb, hbb⟩)
        have hs_u5 := Lib.hid hb
        have T : CC u5 w.heap.size 0 1 (v1) (v2) ∧ CC u5 w.heap.size 2 3 (.int .i64 P.d) (.int .i64 P.t) ∧ CF u5 (w.heap.size + 1) 0 (.bool false) ∧ u5.cell? ⟨u4.heap.size, 0, none⟩ = some (.pointer (some ⟨mb, 0, none⟩)) := by
            refine ⟨⟨?_, ?_⟩, ⟨?_, ?_⟩, ⟨?_, ?_⟩, ?_⟩ <;> first | (refine kc hb ?_ <;> (go_simp; first | done | rfl)) | (refine kfz hb ?_ ?_ <;> first | (go_size; done) | (go_simp; done))
        have hz := hb.size
        (try simp only [World.size_alloc, World.size_setCell, World.size_drew] at hz)
        have L : w.heap.size < u5.heap.size ∧ w.heap.size + 1 < u5.heap.size ∧ u4.heap.size < u5.heap.size := by omega
        have hB' : Below w.heap.size w u5 := by
            refine kb ?_ hb
            go_grown
        clear hp_0 hp_1 hp_2 hp_3 hr_0 fr_0 hlp hlr hnp0 hnp1 hkp1 hnp2 hkp2 hnr0 hkr1 hB hsz
        clear hb hz
        obtain ⟨⟨hp_0, hp_1⟩, ⟨hp_2, hp_3⟩, ⟨hr_0, fr_0⟩, hmv_0⟩ := T
        obtain ⟨hlp, hlr, hlmv⟩ := L
        obtain ⟨hnp0, hnp1, hkp1, hnp2, hkp2⟩ := ap0 hlp
        obtain ⟨hnr0, hkr1⟩ := ap1 hlr
        obtain ⟨hnmv0, hnmv1, hkmv1, hnmv2, hkmv2⟩ := ap0 hlmv
        have hB := hB'; clear hB'
        have hsz := hB.size
        clear hP hmb hbb
        go_wp2_with fail
        ((with_reducible refine (HCK.out _ (by go_grown)).mono ?_); rintro _ u6 ⟨rfl, hb⟩)
        have T : CF u6 (w.heap.size + 1) 0 (.bool false) ∧ u6.cell? ⟨u4.heap.size, 0, none⟩ = some (.pointer (some ⟨mb, 0, none⟩)) ∧ u6.cell? ⟨u5.heap.size, 0, none⟩ = some (.pointer (some ⟨ob, 0, none⟩)) := by
            refine ⟨⟨?_, ?_⟩, ?_, ?_⟩ <;> first | (refine kc hb ?_ <;> (go_simp; first | done | rfl)) | (refine kfz hb ?_ ?_ <;> first | (go_size; done) | (go_simp; done))
        have hz := hb.size
        (try simp only [World.size_alloc, World.size_setCell, World.size_drew] at hz)
        have L : w.heap.size + 1 < u6.heap.size ∧ u4.heap.size < u6.heap.size ∧ u5.heap.size < u6.heap.size := by omega
        have hB' : Below w.heap.size w u6 := by
            refine kb ?_ hb
            go_grown
        clear hp_0 hp_1 hp_2 hp_3 hr_0 fr_0 hmv_0 hlp hlr hlmv hnp0 hnp1 hkp1 hnp2 hkp2 hnr0 hkr1 hnmv0 hnmv1 hkmv1 hnmv2 hkmv2 hB hsz
        clear hb hz
        obtain ⟨⟨hr_0, fr_0⟩, hmv_0, hov_0⟩ := T
        obtain ⟨hlr, hlmv, hlov⟩ := L
        obtain ⟨hnr0, hnr1, hkr1, hnr2, hkr2⟩ := ap1f hlr
        obtain ⟨hnmv0, hnmv1, hkmv1, hnmv2, hkmv2⟩ := ap0 hlmv
        obtain ⟨hnov0, hnov1, hkov1, hnov2, hkov2⟩ := ap0 hlov
        have hB := hB'; clear hB'
        have hsz := hB.size
        go_wp2_with fail
        ((with_reducible refine (awake9_c _).mono ?_); rintro _ u7 ⟨rfl, hb⟩)
        have T : CF u7 (w.heap.size + 1) 0 (.bool false) := by
            refine ⟨?_, ?_⟩ <;> first | (refine kc hb ?_ <;> (go_simp; first | done | rfl)) | (refine kfz hb ?_ ?_ <;> first | (go_size; done) | (go_simp; done))
        have hz := hb.size
        (try simp only [World.size_alloc, World.size_setCell, World.size_drew] at hz)
        have L : w.heap.size + 1 < u7.heap.size := by omega
        have hB' : Below w.heap.size w u7 := by
            refine kb ?_ hb
            go_grown
        clear hr_0 fr_0 hmv_0 hov_0 hlr hlmv hlov hnr0 hnr1 hkr1 hnr2 hkr2 hnmv0 hnmv1 hkmv1 hnmv2 hkmv2 hnov0 hnov1 hkov1 hnov2 hkov2 hB hsz
        clear hb hz
        obtain ⟨hr_0, fr_0⟩ := T
        have hlr := L; clear L
        obtain ⟨hnr0, hnr1, hkr1, hnr2, hkr2⟩ := ap1f hlr
        have hB := hB'; clear hB'
        have hsz := hB.size
        go_wp2
        refine ⟨.bool true, ?_, rfl, hB.setCell (p := ⟨w.heap.size + 1, 0, none⟩) (by show w.heap.size ≤ w.heap.size + 1; omega) _⟩
        have d3 : (u7.setCell ⟨w.heap.size + 1, 0, none⟩ (.bool true)).cell? ⟨w.heap.size + 1, 0, none⟩ = some (.bool true) := by go_simp
        simp [results, Tryd.results3, go_sem, d3]
      case pos =>
        have HNW := Lib.hid (fun W (hb : Below w.heap.size w W) => newt_good P hl _ W (HV.out.below hb) hc)
        have HC0 := Lib.hid hc
        have HGd := Lib.hid (good_of hc).1
        clear hc
        go_wp2_with fail
        ((with_reducible refine (HFW.out _ (by go_grown)).mono ?_); rintro _ u1 ⟨rfl, hb⟩)
        have T : CC u1 w.heap.size 0 1 (v1) (v2) ∧ CC u1 w.heap.size 2 3 (.int .i64 P.d) (.int .i64 P.t) ∧ CF u1 (w.heap.size + 1) 0 (.bool false) := by
            refine ⟨⟨?_, ?_⟩, ⟨?_, ?_⟩, ⟨?_, ?_⟩⟩ <;> first | (refine kc hb ?_ <;> (go_simp; first | done | rfl)) | (refine kfz hb ?_ ?_ <;> first | (go_size; done) | (go_simp; done))
        have hz := hb.size
        (try simp only [World.size_alloc, World.size_setCell, World.size_drew] at hz)
        have L : w.heap.size < u1.heap.size ∧ w.heap.size + 1 < u1.heap.size := by omega
        have hB' : Below w.heap.size w u1 := by
            refine kb ?_ hb
            go_grown
        clear hb hz
        obtain ⟨⟨hp_0, hp_1⟩, ⟨hp_2, hp_3⟩, ⟨hr_0, fr_0⟩⟩ := T
        obtain ⟨hlp, hlr⟩ := L
        obtain ⟨hnp0, hnp1, hkp1, hnp2, hkp2⟩ := ap0 hlp
        obtain ⟨hnr0, hkr1⟩ := ap1 hlr
        have hB := hB'; clear hB'
        have hsz := hB.size
        go_wp2_with fail
        ((with_reducible refine (HFL.out _ hB).mono ?_); rintro _ u2 ⟨rfl, hb⟩)
        have T : CC u2 w.heap.size 0 1 (v1) (v2) ∧ CC u2 w.heap.size 2 3 (.int .i64 P.d) (.int .i64 P.t) ∧ CF u2 (w.heap.size + 1) 0 (.bool false) := by
            refine ⟨⟨?_, ?_⟩, ⟨?_, ?_⟩, ⟨?_, ?_⟩⟩ <;> first | (refine kc hb ?_ <;> (go_simp; first | done | rfl)) | (refine kfz hb ?_ ?_ <;> first | (go_size; done) | (go_simp; done))
        have hz := hb.size
        (try simp only [World.size_alloc, World.size_setCell, World.size_drew] at hz)
        have L : w.heap.size < u2.heap.size ∧ w.heap.size + 1 < u2.heap.size := by omega
        have hB' : Below w.heap.size w u2 := by
            refine kb ?_ hb
            go_grown
        clear hp_0 hp_1 hp_2 hp_3 hr_0 fr_0 hlp hlr hnp0 hnp1 hkp1 hnp2 hkp2 hnr0 hkr1 hB hsz
        clear hb hz
        obtain ⟨⟨hp_0, hp_1⟩, ⟨hp_2, hp_3⟩, ⟨hr_0, fr_0⟩⟩ := T
        obtain ⟨hlp, hlr⟩ := L
        obtain ⟨hnp0, hnp1, hkp1, hnp2, hkp2⟩ := ap0 hlp
        obtain ⟨hnr0, hkr1⟩ := ap1 hlr
        have hB := hB'; clear hB'
        have hsz := hB.size
        go_wp2_with fail
        ((with_reducible refine (HNW.out _ hB).mono ?_); rintro _ u3 ⟨tb, rfl, hb, hT, htb⟩)
        have hs_u3 := Lib.hid hb
        have T : CF u3 (w.heap.size + 1) 0 (.bool false) := by
            refine ⟨?_, ?_⟩ <;> first | (refine kc hb ?_ <;> (go_simp; first | done | rfl)) | (refine kfz hb ?_ ?_ <;> first | (go_size; done) | (go_simp; done))
        have hz := hb.size
        (try simp only [World.size_alloc, World.size_setCell, World.size_drew] at hz)
        have L : w.heap.size + 1 < u3.heap.size := by omega
        have hB' : Below w.heap.size w u3 := by
            refine kb ?_ hb
            go_grown
        clear hp_0 hp_1 hp_2 hp_3 hr_0 fr_0 hlp hlr hnp0 hnp1 hkp1 hnp2 hkp2 hnr0 hkr1 hB hsz
        clear hb hz
        obtain ⟨hr_0, fr_0⟩ := T
        have hlr := L; clear L
        obtain ⟨hnr0, hnr1, hkr1, hnr2, hkr2⟩ := ap1f hlr
        have hB := hB'; clear hB'
        have hsz := hB.size
        have HT3 := Lib.hid hT
        have htl := hT.lt
        have hz3 : w.heap.size + 1 < u3.heap.size := klt hr_0
        clear hT
        go_wp2_with fail
        ((with_reducible refine (HLO.out _ (by go_grown)).mono ?_); rintro _ u4 ⟨mb, bb, rfl, hb, hP, hmb, hbb⟩)
        have hs_u4 := Lib.hid hb
        have T : CF u4 (w.heap.size + 1) 0 (.bool false) ∧ u4.cell? ⟨u3.heap.size, 0, none⟩ = some (.pointer (some ⟨tb, 0, none⟩)) := by
            refine ⟨⟨?_, ?_⟩, ?_⟩ <;> first | (refine kc hb ?_ <;> (go_simp; first | done | rfl)) | (refine kfz hb ?_ ?_ <;> first | (go_size; done) | (go_simp; done))
        have hz := hb.size
        (try simp only [World.size_alloc, World.size_setCell, World.size_drew] at hz)
        have L : w.heap.size + 1 < u4.heap.size ∧ u3.heap.size < u4.heap.size := by omega
        have hB' : Below w.heap.size w u4 := by
            refine kb ?_ hb
            go_grown
        clear hr_0 fr_0 hlr hnr0 hnr1 hkr1 hnr2 hkr2 hB hsz
        clear hb hz
        obtain ⟨⟨hr_0, fr_0⟩, htv_0⟩ := T
        obtain ⟨hlr, hltv⟩ := L
        obtain ⟨hnr0, hnr1, hkr1, hnr2, hkr2⟩ := ap1f hlr
        obtain ⟨hntv0, hntv1, hktv1, hntv2, hktv2⟩ := ap0 hltv
        have hB := hB'; clear hB'
        have hsz := hB.size
        have HPm := Lib.hid hP
        have hb34 : Below u3.heap.size u3 u4 := ((Below.refl _ u3).alloc (Nat.le_refl _) _).trans (hs_u4.out.mono (by simp))
        have HT4 := Lib.hid (HT3.out.below hb34)
        simp only [World.size_alloc] at hmb hbb
        have hz4 : mb < u4.heap.size ∧ bb < u4.heap.size := ⟨klt hP.c0, hP.lt⟩
        have hz34 : u3.heap.size < u4.heap.size := by have := hs_u4.out.size; simp at this; omega
        clear hP
        go_wp2_with fail
        ((with_reducible refine (HLO.out _ (by go_grown)).mono ?_); rintro _ u5 ⟨ob, obb, rfl, hb, hP, hob, hobb⟩)
        have hs_u5 := Lib.hid hb
        have T : CF u5 (w.heap.size + 1) 0 (.bool false) ∧ u5.cell? ⟨u3.heap.size, 0, none⟩ = some (.pointer (some ⟨tb, 0, none⟩)) ∧ u5.cell? ⟨u4.heap.size, 0, none⟩ = some (.pointer (some ⟨mb, 0, none⟩)) := by
            refine ⟨⟨?_, ?_⟩, ?_, ?_⟩ <;> first | (refine kc hb ?_ <;> (go_simp; first | done | rfl)) | (refine kfz hb ?_ ?_ <;> first | (go_size; done) | (go_simp; done))
        have hz := hb.size
        (try simp only [World.size_alloc, World.size_setCell, World.size_drew] at hz)
        have L : w.heap.size + 1 < u5.heap.size ∧ u3.heap.size < u5.heap.size ∧ u4.heap.size < u5.heap.size := by omega
        have hB' : Below w.heap.size w u5 := by
            refine kb ?_ hb
            go_grown
        clear hr_0 fr_0 htv_0 hlr hltv hnr0 hnr1 hkr1 hnr2 hkr2 hntv0 hntv1 hktv1 hntv2 hktv2 hB hsz
        clear hb hz
        obtain ⟨⟨hr_0, fr_0⟩, htv_0, hmv_0⟩ := T
        obtain ⟨hlr, hltv, hlmv⟩ := L
        obtain ⟨hnr0, hnr1, hkr1, hnr2, hkr2⟩ := ap1f hlr
        obtain ⟨hntv0, hntv1, hktv1, hntv2, hktv2⟩ := ap0 hltv
        obtain ⟨hnmv0, hnmv1, hkmv1, hnmv2, hkmv2⟩ := ap0 hlmv
        have hB := hB'; clear hB'
        have hsz := hB.size
        have HPo := Lib.hid hP
        have hb45 : Below u4.heap.size u4 u5 := ((Below.refl _ u4).alloc (Nat.le_refl _) _).trans (hs_u5.out.mono (by simp))
        have HPm5 := Lib.hid (HPm.out.below hb45)
        have HT5 := Lib.hid (HT4.out.below hb45)
        have HB35 := Lib.hid (hb34.trans (hb45.mono hb34.size))
        simp only [World.size_alloc] at hob hobb
        have hz5 : ob < u5.heap.size ∧ obb < u5.heap.size := ⟨klt hP.c0, hP.lt⟩
        have hz45 : u4.heap.size < u5.heap.size := by have := hs_u5.out.size; simp at this; omega
        clear hP hb34 hb45 HPm HT4
        go_wp2_with fail
        have hbo : Below u3.heap.size u3 (u5.alloc (.cells #[.pointer (some ⟨ob, 0, none⟩)] 33)) := HB35.out.trans (((Below.refl _ u5).alloc (Nat.le_refl _) _).mono HB35.out.size)
        have HBO := Lib.hid hbo
        have HLY := Lib.hid (fun W (hb3 : Below u3.heap.size u3 W) (hP : Pm mb bb W M) (hL : Laid W) => layt_c P M tb mb bb u3 W HT3.out hl.1 hb3 (by omega) hP hL)
        have hM1 := fun k => lay_plain HPLn.out HGd.out k
        generalize layM M (sortS P.s) = M' at *
        clear hbo
        ((with_reducible refine (HLY.out _ HBO.out (HPm5.out.below (by go_grown)) (HLd.out _ (by go_grown))).mono ?_); rintro _ u6 ⟨rfl, hb, hPn⟩)
        have hs_u6 := Lib.hid hb
        have T : CF u6 (w.heap.size + 1) 0 (.bool false) ∧ u6.cell? ⟨u3.heap.size, 0, none⟩ = some (.pointer (some ⟨tb, 0, none⟩)) ∧ u6.cell? ⟨u4.heap.size, 0, none⟩ = some (.pointer (some ⟨mb, 0, none⟩)) ∧ u6.cell? ⟨u5.heap.size, 0, none⟩ = some (.pointer (some ⟨ob, 0, none⟩)) := by
            refine ⟨⟨?_, ?_⟩, ?_, ?_, ?_⟩ <;> first | (refine kg hb ?_ ?_; (· omega); (· (go_simp; first | done | rfl))) | (refine kgf hb ?_ ?_ ?_; (· omega); (· first | go_size | omega | (simp only [World.size_alloc, World.size_setCell, World.size_drew]; omega)); (· (go_simp; first | done | rfl)))
        have hz := hb.size
        (try simp only [World.size_alloc, World.size_setCell, World.size_drew] at hz)
        have L : w.heap.size + 1 < u6.heap.size ∧ u3.heap.size < u6.heap.size ∧ u4.heap.size < u6.heap.size ∧ u5.heap.size < u6.heap.size := by omega
        have hB' : Below w.heap.size w u6 := by
            refine below_grown2 ?_ hb (by omega)
            go_grown
        clear hr_0 fr_0 htv_0 hmv_0 hlr hltv hlmv hnr0 hnr1 hkr1 hnr2 hkr2 hntv0 hntv1 hktv1 hntv2 hktv2 hnmv0 hnmv1 hkmv1 hnmv2 hkmv2 hB hsz
        clear hb hz
        obtain ⟨⟨hr_0, fr_0⟩, htv_0, hmv_0, hov_0⟩ := T
        obtain ⟨hlr, hltv, hlmv, hlov⟩ := L
        obtain ⟨hnr0, hnr1, hkr1, hnr2, hkr2⟩ := ap1f hlr
        obtain ⟨hntv0, hntv1, hktv1, hntv2, hktv2⟩ := ap0 hltv
        obtain ⟨hnmv0, hnmv1, hkmv1, hnmv2, hkmv2⟩ := ap0 hlmv
        obtain ⟨hnov0, hnov1, hkov1, hnov2, hkov2⟩ := ap0 hlov
        have hB := hB'; clear hB'
        have hsz := hB.size
        have HB36 := Lib.hid (below_grown9 HBO.out hs_u6.out (by omega))
        have HT6 := Lib.hid (HT3.out.below HB36.out)
        have HPo6 := Lib.hid ((HPo.out.below ((Below.refl _ u5).alloc (Nat.le_refl _) (.cells #[.pointer (some ⟨ob, 0, none⟩)] 33))).other hs_u6.out (by omega) (by omega))
        have HPm6 := Lib.hid hPn
        have hz6 : u5.heap.size + 1 ≤ u6.heap.size := by have := hs_u6.out.size; simp at this; omega
        have hSby : ∀ k, By (bitsR P.s k) := fun k => bits_u8 HB8.out.1 k
        have hVM : VB M := HPLn.out.v
        have hVM' : VB M' := fun k => by rw [hM1 k]; exact hVM k
        have e1 : lowM (bitsR P.s) M' M = true := low_refl hSby hVM' (fun k => by rw [hM1 k])
        have e2 : lowM (bitsR P.s) M M' = true := low_refl hSby hVM (fun k => by rw [hM1 k])
        have HL1 := Lib.hid (fun W hT hP hQ hL => e1 ▸ lowp_c P M' M tb mb bb ob obb W hT hP hQ hL)
        have HL2 := Lib.hid (fun W hT hP hQ hL => e2 ▸ lowp_c P M M' tb ob obb mb bb W hT hP hQ hL)
        have HM1 := Lib.hid hM1
        clear hPn hs_u6 hSby hVM hVM' e1 e2 HBO HLY HPo HPm5 HT5 hM1
        go_wp2_with fail
        ((with_reducible refine (HL1.out _ HT6.out HPm6.out HPo6.out (HLd.out _ hB)).mono ?_); rintro _ u7 ⟨rfl, hb⟩)
        have hs_u7 := Lib.hid hb
        have T : CF u7 (w.heap.size + 1) 0 (.bool false) ∧ u7.cell? ⟨u3.heap.size, 0, none⟩ = some (.pointer (some ⟨tb, 0, none⟩)) ∧ u7.cell? ⟨u4.heap.size, 0, none⟩ = some (.pointer (some ⟨mb, 0, none⟩)) ∧ u7.cell? ⟨u5.heap.size, 0, none⟩ = some (.pointer (some ⟨ob, 0, none⟩)) := by
            refine ⟨⟨?_, ?_⟩, ?_, ?_, ?_⟩ <;> first | (refine kc hb ?_ <;> (go_simp; first | done | rfl)) | (refine kfz hb ?_ ?_ <;> first | (go_size; done) | (go_simp; done))
        have hz := hb.size
        (try simp only [World.size_alloc, World.size_setCell, World.size_drew] at hz)
        have L : w.heap.size + 1 < u7.heap.size ∧ u3.heap.size < u7.heap.size ∧ u4.heap.size < u7.heap.size ∧ u5.heap.size < u7.heap.size := by omega
        have hB' : Below w.heap.size w u7 := by
            refine kb ?_ hb
            go_grown
        clear hr_0 fr_0 htv_0 hmv_0 hov_0 hlr hltv hlmv hlov hnr0 hnr1 hkr1 hnr2 hkr2 hntv0 hntv1 hktv1 hntv2 hktv2 hnmv0 hnmv1 hkmv1 hnmv2 hkmv2 hnov0 hnov1 hkov1 hnov2 hkov2 hB hsz
        clear hb hz
        obtain ⟨⟨hr_0, fr_0⟩, htv_0, hmv_0, hov_0⟩ := T
        obtain ⟨hlr, hltv, hlmv, hlov⟩ := L
        obtain ⟨hnr0, hnr1, hkr1, hnr2, hkr2⟩ := ap1f hlr
        obtain ⟨hntv0, hntv1, hktv1, hntv2, hktv2⟩ := ap0 hltv
        obtain ⟨hnmv0, hnmv1, hkmv1, hnmv2, hkmv2⟩ := ap0 hlmv
        obtain ⟨hnov0, hnov1, hkov1, hnov2, hkov2⟩ := ap0 hlov
        have hB := hB'; clear hB'
        have hsz := hB.size
        have HT7 := Lib.hid (HT6.out.below hs_u7.out)
        have HPm7 := Lib.hid (HPm6.out.below hs_u7.out)
        have HPo7 := Lib.hid (HPo6.out.below hs_u7.out)
        have hz7 := hs_u7.out.size
        clear HT6 HPm6 HPo6 hs_u7 HL1
        go_wp2_with fail
        ((with_reducible refine (HL2.out _ HT7.out HPo7.out HPm7.out (HLd.out _ hB)).mono ?_); rintro _ u8 ⟨rfl, hb⟩)
        have hs_u8 := Lib.hid hb
        have T : CF u8 (w.heap.size + 1) 0 (.bool false) ∧ u8.cell? ⟨u3.heap.size, 0, none⟩ = some (.pointer (some ⟨tb, 0, none⟩)) ∧ u8.cell? ⟨u4.heap.size, 0, none⟩ = some (.pointer (some ⟨mb, 0, none⟩)) ∧ u8.cell? ⟨u5.heap.size, 0, none⟩ = some (.pointer (some ⟨ob, 0, none⟩)) := by
            refine ⟨⟨?_, ?_⟩, ?_, ?_, ?_⟩ <;> first | (refine kc hb ?_ <;> (go_simp; first | done | rfl)) | (refine kfz hb ?_ ?_ <;> first | (go_size; done) | (go_simp; done))
        have hz := hb.size
        (try simp only [World.size_alloc, World.size_setCell, World.size_drew] at hz)
        have L : w.heap.size + 1 < u8.heap.size ∧ u3.heap.size < u8.heap.size ∧ u4.heap.size < u8.heap.size ∧ u5.heap.size < u8.heap.size := by omega
        have hB' : Below w.heap.size w u8 := by
            refine kb ?_ hb
            go_grown
        clear hr_0 fr_0 htv_0 hmv_0 hov_0 hlr hltv hlmv hlov hnr0 hnr1 hkr1 hnr2 hkr2 hntv0 hntv1 hktv1 hntv2 hktv2 hnmv0 hnmv1 hkmv1 hnmv2 hkmv2 hnov0 hnov1 hkov1 hnov2 hkov2 hB hsz
        clear hb hz
        obtain ⟨⟨hr_0, fr_0⟩, htv_0, hmv_0, hov_0⟩ := T
        obtain ⟨hlr, hltv, hlmv, hlov⟩ := L
        obtain ⟨hnr0, hnr1, hkr1, hnr2, hkr2⟩ := ap1f hlr
        obtain ⟨hntv0, hntv1, hktv1, hntv2, hktv2⟩ := ap0 hltv
        obtain ⟨hnmv0, hnmv1, hkmv1, hnmv2, hkmv2⟩ := ap0 hlmv
        obtain ⟨hnov0, hnov1, hkov1, hnov2, hkov2⟩ := ap0 hlov
        have hB := hB'; clear hB'
        have hsz := hB.size
        have HT8 := Lib.hid (HT7.out.below hs_u8.out)
        have HPm8 := Lib.hid (HPm7.out.below hs_u8.out)
        have HPo8 := Lib.hid (HPo7.out.below hs_u8.out)
        have hz8 := hs_u8.out.size
        clear HT7 HPm7 HPo7 hs_u8 HL2
        go_wp2_with fail
        ((with_reducible refine (secretp_c M' mb bb _ HPm8.out).mono ?_); rintro _ u9 ⟨B1, cb, cbb, rfl, hb, hBc, hPc, g1, g2, g3⟩)
        have hs_u9 := Lib.hid hb
        have T : CF u9 (w.heap.size + 1) 0 (.bool false) ∧ u9.cell? ⟨u3.heap.size, 0, none⟩ = some (.pointer (some ⟨tb, 0, none⟩)) ∧ u9.cell? ⟨u4.heap.size, 0, none⟩ = some (.pointer (some ⟨mb, 0, none⟩)) ∧ u9.cell? ⟨u5.heap.size, 0, none⟩ = some (.pointer (some ⟨ob, 0, none⟩)) := by
            refine ⟨⟨?_, ?_⟩, ?_, ?_, ?_⟩ <;> first | (refine kc hb ?_ <;> (go_simp; first | done | rfl)) | (refine kfz hb ?_ ?_ <;> first | (go_size; done) | (go_simp; done))
        have hz := hb.size
        (try simp only [World.size_alloc, World.size_setCell, World.size_drew] at hz)
        have L : w.heap.size + 1 < u9.heap.size ∧ u3.heap.size < u9.heap.size ∧ u4.heap.size < u9.heap.size ∧ u5.heap.size < u9.heap.size := by omega
        have hB' : Below w.heap.size w u9 := by
            refine kb ?_ hb
            go_grown
        clear hr_0 fr_0 htv_0 hmv_0 hov_0 hlr hltv hlmv hlov hnr0 hnr1 hkr1 hnr2 hkr2 hntv0 hntv1 hktv1 hntv2 hktv2 hnmv0 hnmv1 hkmv1 hnmv2 hkmv2 hnov0 hnov1 hkov1 hnov2 hkov2 hB hsz
        clear hb hz
        obtain ⟨⟨hr_0, fr_0⟩, htv_0, hmv_0, hov_0⟩ := T
        obtain ⟨hlr, hltv, hlmv, hlov⟩ := L
        obtain ⟨hnr0, hnr1, hkr1, hnr2, hkr2⟩ := ap1f hlr
        obtain ⟨hntv0, hntv1, hktv1, hntv2, hktv2⟩ := ap0 hltv
        obtain ⟨hnmv0, hnmv1, hkmv1, hnmv2, hkmv2⟩ := ap0 hlmv
        obtain ⟨hnov0, hnov1, hkov1, hnov2, hkov2⟩ := ap0 hlov
        have hB := hB'; clear hB'
        have hsz := hB.size
        have HT9 := Lib.hid (HT8.out.below hs_u9.out)
        have HPm9 := Lib.hid (HPm8.out.below hs_u9.out)
        have HPo9 := Lib.hid (HPo8.out.below hs_u9.out)
        have HPc9 := Lib.hid (And.intro hPc hBc)
        have hz9 := hs_u9.out.size
        have hzc : B1 < u9.heap.size ∧ cb < u9.heap.size ∧ cbb < u9.heap.size := ⟨klt hBc, klt hPc.c0, hPc.lt⟩
        have q0 := fun W => sec_not_nil9 B1 W
        unfold secF at q0 ⊢
        have HB9 := Lib.hid hB
        have HCL := Lib.hid (And.intro (And.intro hr_0 fr_0) (And.intro htv_0 (And.intro hmv_0 hov_0)))
        clear hBc hPc HT8 HPm8 HPo8 hs_u9 HLO HNW HFW HFL
        clear hr_0 fr_0 htv_0 hmv_0 hov_0 hB hsz
        go_wp2_with fail
        have hn0 := nc_new9 u9 0 3
        obtain ⟨Wl, hWl⟩ : ∃ X, u9.alloc (.cells #[.int .i64 0] 3) = X := ⟨_, rfl⟩
        have hBl : Below u9.heap.size u9 Wl := by rw [← hWl]; exact (Below.refl _ _).alloc (Nat.le_refl _) _
        have hzl : Wl.heap.size = u9.heap.size + 1 := by rw [← hWl]; simp
        rw [hWl] at hn0 ⊢
        clear hWl q0
        have HBl := Lib.hid hBl
        clear hBl
        refine wpIn_rangeM (n := 4) (M := M') (by decide) (gf := 31) (lb := #[.pointer (some ⟨B1, 0, none⟩)]) rfl (enters_of Tryd.func31 (by kernel_rfl) rfl)
          90 91 u9.heap.size 11 12 u9.heap.size (secp_stops (4 - 1) (by decide) B1 cb cbb u9.heap.size M' Wl (kc HBl.out HPc9.out.2) (HPc9.out.1.below HBl.out) hzc.1 hzc.2.1 hzc.2.2 (by omega)) (by omega) rfl
          (fun pre W => Nc u9.heap.size (pre.length : Int) W ∧ Below u9.heap.size u9 W)
          (OwnFrom.and (Own.from (Nc.own u9.heap.size (fun pre : List (SecB M') => (pre.length : Int))) _) (ownFrom_below (Nat.le_refl _) (by omega)))
          ⟨hn0, HBl.out⟩ ?assign ?body ?done
        case assign =>
          rintro l1 pre x W K ⟨hc, hB⟩ hK
          have hlt := klt hc.1
          have hszl := hB.size
          dsimp only [encS] at hK ⊢
          gi_wp2
          exact hK _ _ ((KeepsOthers.alloc _ _).from _) ((Below.refl _ W).alloc hszl _) ⟨hc.below ((Below.refl _ W).alloc (Nat.le_refl _) _), hB.alloc hszl _⟩ ⟨W.heap.size, hlt, ⟨by go_simp, by go_simp⟩, rfl⟩
        case body =>
          rintro l1 pre x a' W hl1 ⟨r1, hr1⟩ ⟨hc, hBW⟩ ⟨Bx, hBx, ⟨x1, x2⟩, rfl⟩ hlen
          have hMk := HM1.out ((x.1 : Nat) : Int)
          have hne := x.2.2
          rw [hMk] at x1 x2 hne
          dsimp only at x1 x2 hne
          have hrd : prM M ((x.1 : Nat) : Int) = ⟨(M ((x.1 : Nat) : Int)).1, 0, 0⟩ := by rw [read_real9 (bits_dev HGd.out hne), HPLn.out.t]
          have HRD := Lib.hid (fun U (hb : Below W.heap.size W U) => readp_c M ((x.1 : Nat) : Int) ob obb U ((HPo9.out.below hBW).below hb) (HLd.out U (kb (kb HB9.out hBW) hb)))
          have HSC := Lib.hid (fun U (hb : Below W.heap.size W U) => secretp9_c HC0.out ((x.1 : Nat) : Int) tb U ((HT9.out.below hBW).below hb))
          rw [hrd] at HRD
          dsimp only at HRD
          have HLL := Lib.hid (show ((pre ++ [x]).length : Int) = (pre.length : Int) + 1 from by rw [List.length_append]; rfl)
          have wN : IntKind.i64.wrap ((pre.length : Int) + 1) = (pre.length : Int) + 1 := IntWalk.i64_in _ (by omega)
          dsimp only [encS]
          rw [hMk]
          dsimp only
          generalize ((x.1 : Nat) : Int) = k at *
          generalize (M k).1 = m0 at *
          generalize bitsR P.s k = m1 at *
          have hm1 : (m1 == 0) = false := by simpa using hne
          have hm2 : (m1 != 0) = true := by simp [bne, hm1]
          have yr_0 := kc hBW HCL.out.1.1
          have yt_0 := kc hBW HCL.out.2.1
          have yo_0 := kc hBW HCL.out.2.2.2
          have yn_0 := hc.1
          have yf_0 := hc.2
          have hszl := hBW.size
          have hlx := klt x1
          have hlt3 := klt yt_0
          have hlo5 := klt yo_0
          have hln := klt yn_0
          have HBW := Lib.hid hBW
          clear hMk hne hrd hc hBW yr_0
          have hB : Below W.heap.size W W := Below.refl _ _
          have hsz := hB.size
          gi_wp2_with fail
          refine ⟨trivial, ?_⟩
          gi_at_call 15
          refine (callsIn_wide.2 (HRD.out _ hB)).mono ?_
          rintro _ y1 ⟨rfl, hb⟩
          have hy_0 := kc hb x1
          have hy_1 := kc hb x2
          have htv_0 := kc hb yt_0
          have hnn_0 := kc hb yn_0
          have fnn_0 := kfz hb (klt yn_0) yf_0
          have hB := hb
          have hsz := hb.size
          have hny : ¬ Bx = y1.heap.size := by omega
          have hly : Bx < y1.heap.size := by omega
          have hltv : u3.heap.size < y1.heap.size := by omega
          have hlnn : u9.heap.size < y1.heap.size := by omega
          have hnt : ¬ u3.heap.size = y1.heap.size := by omega
          have hnn : ¬ u9.heap.size = y1.heap.size := by omega
          clear hb x1 x2 yt_0 yo_0 yn_0 yf_0
          have q1 := fun W => eq_byte9 m0 0 0 0 W
          gi_wp2_with fail
          refine wpIn_region_plan (fun w' => w'.cell? ⟨Bx, 0, none⟩ = some (.int .u8 m0) ∧ w'.cell? ⟨Bx, 1, none⟩ = some (.int .u8 m1) ∧ w'.cell? ⟨y1.heap.size, 0, none⟩ = some (.int .u8 m0) ∧ w'.cell? ⟨y1.heap.size, 1, none⟩ = some (.int .u8 0) ∧ w'.cell? ⟨u3.heap.size, 0, none⟩ = some (.pointer (some ⟨tb, 0, none⟩)) ∧ w'.cell? ⟨u9.heap.size, 0, none⟩ = some (.int .i64 (pre.length : Int)) ∧ w'.frozen? ⟨u9.heap.size, 0, none⟩ = false ∧ Below W.heap.size W w') (by kernel_rfl) (by kernel_rfl) (by kernel_rfl) (by kernel_rfl) ?_ ?_
          · (try dsimp only)
            refine ⟨?_, ?_, ?_, ?_, ?_, ?_, ?_, ?_⟩ <;> first | (go_simp; done) | (simp [*]; done) | go_grown
          repeat (first
            | (refine Plan.val (v := ?_) ?_ ?_ ?_; rotate_left; (· rfl); (· (intro W hSw; (try dsimp only at hSw); go_simp; all_goals (first | (with_reducible rfl) | (constructor <;> (with_reducible rfl)) | (rw [if_neg (by omega)]; done) | (rw [if_neg (by omega)]; with_reducible rfl)))); (try simp only [Act.put, List.setIfInBounds_toArray, List.set_cons_zero, List.set_cons_succ]))
            | (refine Plan.no ?_ ?_; (· rfl); (try simp only [Act.put, List.setIfInBounds_toArray, List.set_cons_zero, List.set_cons_succ]))
            | (refine Plan.call (v := ?_) (f := ?_) (args := ?_) ?_ ?_ ?_ ?_; rotate_left 3; (· rfl); (· (intro W hSw; (try dsimp only at hSw); go_simp; all_goals (first | (with_reducible rfl) | (constructor <;> (with_reducible rfl)) | (rw [if_neg (by omega)]; done) | (rw [if_neg (by omega)]; with_reducible rfl)))); (· (intro W hSw; (try dsimp only at hSw); first | (go_at_call 16; ((with_reducible refine (HSC.out _ hSw.2.2.2.2.2.2.2).mono ?_); rintro _ wz ⟨rfl, hb⟩; (refine ⟨?_, ?_⟩; (· with_reducible rfl); exact ⟨kc hb hSw.1, kc hb hSw.2.1, kc hb hSw.2.2.1, kc hb hSw.2.2.2.1, kc hb hSw.2.2.2.2.1, kc hb hSw.2.2.2.2.2.1, kfz hb (klt hSw.2.2.2.2.2.1) hSw.2.2.2.2.2.2.1, kb hSw.2.2.2.2.2.2.2 hb⟩))))); (try simp only [Act.put, List.setIfInBounds_toArray, List.set_cons_zero, List.set_cons_succ])))
          refine Plan.done ?_
          intro z2 T
          (try dsimp only at T)
          obtain ⟨hy_0, hy_1, hxv_0, hxv_1, htv_0, hnn_0, fnn_0, hB⟩ := T
          have hsz := hB.size
          have hly := klt hy_0
          have hlxv := klt hxv_0
          have hltv := klt htv_0
          have hlnn := klt hnn_0
          obtain ⟨hny0, hny1, hky1, hny2, hky2⟩ := ap0 hly
          obtain ⟨hnxv0, hnxv1, hkxv1, hnxv2, hkxv2⟩ := ap0 hlxv
          obtain ⟨hntv0, hntv1, hktv1, hntv2, hktv2⟩ := ap0 hltv
          obtain ⟨hnnn0, hnnn1, hknn1, hnnn2, hknn2⟩ := ap0 hlnn
          gi_wp2
          refine ⟨((keeps_of9 hB).trans (KeepsOthers.setCell _ _ _)).from _, (hB.mono hszl).setCell (p := ⟨u9.heap.size, 0, none⟩) (Nat.le_refl _) _, ?_, (HBW.out.trans (hB.mono hszl)).setCell (p := ⟨u9.heap.size, 0, none⟩) (Nat.le_refl _) _⟩
          rw [HLL.out]
          exact ⟨by go_simp, by go_simp⟩
        case done =>
          rintro Dd W hDd ⟨hnn, hBW⟩ hK
          have hcnt : (upS M' 65536).length = (upB (bitsR P.s) 65536).length := up_same (fun k _ => by rw [HM1.out]) 65536 (Nat.le_refl _)
          have hTb := upB_len (bitsR P.s) 65536
          obtain ⟨T, hT⟩ : ∃ T, (upS M' 65536).length = T := ⟨_, rfl⟩
          rw [hT] at hnn hcnt
          have HTC := Lib.hid (And.intro hcnt hTb)
          have HF := Lib.hid (show FinR w (w.heap.size + 1) Dd (.bool false) W from ⟨kc hBW HCL.out.1.1, kfz hBW (klt HCL.out.1.1) HCL.out.1.2, hK, kb HB9.out hBW⟩)
          have HBW := Lib.hid hBW
          have yt_0 := kc hBW HCL.out.2.1
          have HNW9 := Lib.hid hnn
          have hlt3 : u3.heap.size < W.heap.size := klt yt_0
          have hln : u9.heap.size < W.heap.size := klt hnn.1
          have HTW := Lib.hid (HT9.out.below hBW)
          clear hT hcnt hTb hnn hBW hK
          have hB : Below W.heap.size W W := Below.refl _ _
          have hsz := hB.size
          have htv_0 := yt_0
          clear yt_0
          go_wp2_with fail
          ((with_reducible refine (all_c (some ⟨tb, 0, none⟩) _).mono ?_); rintro _ z1 ⟨B2, rfl, hb, hBc2, k1, k2⟩)
          have hs_z1 := Lib.hid hb
          have T : z1.cell? ⟨u3.heap.size, 0, none⟩ = some (.pointer (some ⟨tb, 0, none⟩)) := by
              refine kc hb ?_ <;> (go_simp; first | done | rfl)
          have hz := hb.size
          (try simp only [World.size_alloc, World.size_setCell, World.size_drew] at hz)
          have L : u3.heap.size < z1.heap.size := by omega
          have hB' : Below W.heap.size W z1 := by
              refine kb ?_ hb
              go_grown
          clear hb hz
          have htv_0 := T; clear T
          have hltv := L; clear L
          obtain ⟨hntv0, hntv1, hktv1, hntv2, hktv2⟩ := ap0 hltv
          have hB := hB'; clear hB'
          have hsz := hB.size
          have HF1 := Lib.hid (HF.out.below hB)
          have HN1 := Lib.hid (HNW9.out.below hB)
          have HT1 := Lib.hid (HTW.out.below hB)
          have HB1 := Lib.hid (HBW.out.trans (hB.mono HBW.out.size))
          have HBc2 := Lib.hid hBc2
          have hDl : Dd < z1.heap.size := (Array.getElem?_eq_some_iff.1 HF1.out.d).1
          have q0 := fun W => all_not_nil B2 W
          unfold allF at q0 ⊢
          clear HF HNW9 HTW HBW hBc2 hB
          go_wp2_with fail
          refine wpIn_rangeA (n := 4) (S := bitsR P.s) (by decide) (gf := 35) (lb := #[.pointer (some ⟨B2, 0, none⟩)]) rfl (enters_of Tryd.func35 (by kernel_rfl) rfl) 127 128 16 17 B2 tb
            (allp_stops (4 - 1) (by decide) B2 tb P z1 HBc2.out HT1.out) k2 HT1.out.lt rfl
            (fun pre W2 => (Nc u9.heap.size ((T : Int) - (pre.length : Int)) W2 ∧ Below u9.heap.size u9 W2) ∧ W2.heap[Dd]? = some (.deferred (some [])))
            (fun _ _ _ => False)
            (OwnFrom.and (OwnFrom.and (Own.from (Nc.own u9.heap.size (fun pre : List (AdB (bitsR P.s)) => (T : Int) - (pre.length : Int))) _) (ownFrom_below (Nat.le_refl _) (by omega))) (ownFrom_record hDl))
            (fun c => fun _ _ _ _ h _ _ => h)
            ⟨⟨by simpa using HN1.out, HB1.out⟩, HF1.out.d⟩ ?assign2 ?body2 ?done2 ?stop2
          case assign2 =>
            rintro l1 pre x W2 K hI hK
            dsimp only [encB]
            gi_wp2
            exact hK _ _ ((KeepsOthers.refl _).from _) (Kq.refl _) hI rfl
          case stop2 => exact fun Dd2 c k W2 _ _ h => h.elim
          case body2 =>
            rintro l1 pre x W2 hl1 ⟨r1, hr1⟩ ⟨⟨hn, hBW2⟩, hrec⟩ hlen
            have hMk := HM1.out ((x.1 : Nat) : Int)
            have hne := x.2.2
            have hrd : prM M' ((x.1 : Nat) : Int) = ⟨(M ((x.1 : Nat) : Int)).1, bitsR P.s ((x.1 : Nat) : Int), 0⟩ := by rw [read_real9 (bits_dev HGd.out hne), hMk]
            have HRD := Lib.hid (fun U (hb : Below W2.heap.size W2 U) => readp_c M' ((x.1 : Nat) : Int) mb bb U ((HPm9.out.below hBW2).below hb) (HLd.out U (kb (kb HB9.out hBW2) hb)))
            rw [hrd] at HRD
            dsimp only at HRD
            obtain ⟨c, hc0⟩ : ∃ c, pre.length = c := ⟨_, rfl⟩
            rw [hc0] at hn hlen
            have HPL := Lib.hid (show (T : Int) - ((pre ++ [x]).length : Int) = (T : Int) - (c : Int) - 1 from by rw [List.length_append, hc0]; simp; omega)
            have hTb := HTC.out
            have wN : IntKind.i64.wrap ((T : Int) - (c : Int) - 1) = (T : Int) - (c : Int) - 1 := IntWalk.i64_in _ (by omega)
            dsimp only [actA, encB]
            generalize ((x.1 : Nat) : Int) = k at *
            generalize (M k).1 = m0 at *
            generalize bitsR P.s k = m1 at *
            have ym_0 := kc hBW2 HCL.out.2.2.1
            have yn_0 := hn.1
            have yf_0 := hn.2
            have hlm4 := klt ym_0
            have hln := klt yn_0
            have HBW2 := Lib.hid hBW2
            have HREC := Lib.hid hrec
            have hz2 := hBW2.size
            have hB : Below W2.heap.size W2 W2 := Below.refl _ _
            have hlw := (Array.getElem?_eq_some_iff.1 hr1).1
            have hb2 : B2 < W2.heap.size := by omega
            have hbt : tb < W2.heap.size := by omega
            clear hMk hne hrd hn hBW2 hrec hTb hc0
            gi_wp2_with fail
            refine ⟨trivial, ?_⟩
            gi_at_call 15
            refine (callsIn_wide.2 (HRD.out _ hB)).mono ?_
            rintro _ y1 ⟨rfl, hb⟩
            have hnn_0 := kc hb yn_0
            have fnn_0 := kfz hb (klt yn_0) yf_0
            have hsz := hb.size
            have hnn : ¬ u9.heap.size = y1.heap.size := by omega
            have hlnn : u9.heap.size < y1.heap.size := by omega
            have HBy := Lib.hid hb
            clear hb ym_0 yn_0 yf_0 hB
            gi_wp2
            refine ⟨(((keeps_of9 HBy.out).trans (KeepsOthers.setCell _ _ _)).trans (KeepsOthers.alloc _ _)).from _, ?_, ⟨⟨?_, ?_⟩, ?_⟩⟩
            · exact ((Kq.below HBy.out hb2 hbt).set ⟨u9.heap.size, 0, none⟩ _ (by show B2 ≠ u9.heap.size; omega) (by show tb ≠ u9.heap.size; omega)).trans (Kq.below ((Below.refl _ _).alloc (Nat.le_refl _) _) (by rw [World.size_setCell]; omega) (by rw [World.size_setCell]; omega))
            · rw [HPL.out]
              exact ⟨by go_simp, by go_simp⟩
            · exact ((HBW2.out.trans (HBy.out.mono hz2)).setCell (p := ⟨u9.heap.size, 0, none⟩) (Nat.le_refl _) _).alloc (by rw [World.size_setCell]; omega) _
            · exact (((keeps_of9 HBy.out).trans (KeepsOthers.setCell _ ⟨u9.heap.size, 0, none⟩ _)).trans (KeepsOthers.alloc _ _)).same Dd _ HREC.out rfl
          case done2 =>
            rintro Dd2 W2 hDd2 ⟨⟨hnn2, hBW2⟩, hrec⟩ hK2
            have h0 : (T : Int) - ((upB (bitsR P.s) 65536).length : Int) = 0 := by have := HTC.out.1; omega
            rw [h0] at hnn2
            have hnn_0 := hnn2.1
            have hDw : w.heap.size ≤ Dd := by have := HB9.out.size; omega
            have hDw2 : w.heap.size ≤ Dd2 := by omega
            have hDne : Dd ≠ Dd2 := by omega
            have HF2 := Lib.hid (show FinR w (w.heap.size + 1) Dd2 (.bool false) W2 from ⟨kc hBW2 HCL.out.1.1, kfz hBW2 (klt HCL.out.1.1) HCL.out.1.2, hK2, kb HB9.out hBW2⟩)
            have HREC := Lib.hid hrec
            clear h0 hnn2 hBW2 hrec hK2 HF1 HN1 HT1 HB1 HBc2 q0
            go_wp2_with fail
            refine (awake9_c _).mono ?_
            rintro _ y1 ⟨rfl, hb⟩
            have HF3 := Lib.hid (HF2.out.below hb)
            have hrec3 : y1.heap[Dd]? = some (.deferred (some [])) := (hb.block Dd (Array.getElem?_eq_some_iff.1 HREC.out).1).trans HREC.out
            have HREC3 := Lib.hid hrec3
            have hc9 := HF3.out.c
            have hf9 := HF3.out.f
            clear hb HF2 hnn_0 HREC hrec3
            go_wp2
            have HF4 := HF3.out.set (by omega) (.bool true)
            have hr4 : (y1.setCell ⟨w.heap.size + 1, 0, none⟩ (.bool true)).heap[Dd]? = some (.deferred (some [])) := (KeepsOthers.setCell y1 ⟨w.heap.size + 1, 0, none⟩ (.bool true)).same Dd _ HREC3.out rfl
            generalize y1.setCell ⟨w.heap.size + 1, 0, none⟩ (.bool true) = y5 at *
            have hr5 : (y5.putObj Dd2 (.deferred none)).heap[Dd]? = some (.deferred (some [])) := ((grownBy_putObj' y5 Dd2 (.deferred none)).block Dd (Array.getElem?_eq_some_iff.1 hr4).1 (fun e => by cases e; exact hDne rfl)).trans hr4
            obtain ⟨d3, hB3⟩ := HF4.over hDw2
            have HF6 : FinR w (w.heap.size + 1) Dd (.bool true) (y5.putObj Dd2 (.deferred none)) := ⟨d3, (frozen_kept HF4.c (grownBy_putObj' y5 Dd2 (.deferred none)) (fun r e => by cases e; exact ⟨_, HF4.d, rfl⟩)).trans HF4.f, hr5, hB3⟩
            obtain ⟨d4, hB4⟩ := HF6.over hDw
            exact ⟨by simp, .inl ⟨_, _, rfl, run_takeDeferred HF4.d, ⟨by simp, .inl ⟨_, _, rfl, run_takeDeferred hr5, .bool true, by simp [results, Tryd.results3, go_sem, d4], rfl, hB4⟩⟩⟩⟩
theorem lays_walk9 (P : Pol) (hb8 : Bits P) (v : Value) (l : List Ld) (lv : Value) (w : World) (hv : HoldsP w v P) (hlv : HoldsLd w.heap.size w lv l) (hll : l.length ≤ 9223372036854775807) (hlm : ∀ x ∈ l, x.l.length ≤ 9223372036854775807) (hlb : ∀ x ∈ l, ∀ y ∈ x.l, 0 ≤ y ∧ y ≤ 255) (hL : Laid w) :
    Calls Tryd.prog 3 #[v, lv] w fun e w' => e = .returned (.bool true) ∧ Below w.heap.size w w' := callsIn_wide.1 (lays_in9 P hb8 v l lv w hv hlv hll hlb hL)
end Go.Proofs.YtcilnbkmaoneaaaDoor
