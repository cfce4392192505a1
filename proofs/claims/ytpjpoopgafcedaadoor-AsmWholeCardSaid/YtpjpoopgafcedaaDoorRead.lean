/-
  Layer 5's document: the line that bytes begin with, at an address.
-/
import Derived.Test.YtpjpoopgafcedaaDoorSame
import Derived.Test.YtpjpoopgafcedaaDoorLenR
set_option linter.unusedSimpArgs false
set_option linter.unusedVariables false
namespace Go.Proofs.YtpjpoopgafcedaaDoor
open Go.RowKit Go.PlainAid Go.Joins

/-- How a call ends that answers a line, how many bytes it took, and an error. -/
def ReadEnd (w : World) (o n k E : Int) : Ending → World → Prop := fun e w' =>
  e = .returned (.tuple #[.agg #[.int .i64 o, .int .i64 n], .int .i64 k, .int .i64 E]) ∧ Below w.heap.size w w'
set_option maxRecDepth 100000 in
set_option maxHeartbeats 1000000 in
theorem read_range (v : Value) (a : Int) (h : a < 0 ∨ 65535 < a) (w : World) :
    Calls Tryd.prog 19 #[v, .int .i64 a] w (ReadEnd w 0 0 0 10) := by
  have hx : (decide (a < 0) = true) ∨ (decide (a < 0) = false ∧ decide (65535 < a) = true) := by
    by_cases h1 : a < 0
    · exact .inl (decide_eq_true h1)
    · exact .inr ⟨decide_eq_false h1, decide_eq_true (by omega)⟩
  clear h
  rcases hx with e1 | ⟨e1, e2⟩
  all_goals
    skip
    go_enter Tryd.func19, Tryd.ntmps19
    go_wp2
    refine bodyPost_ret (v := .tuple #[.agg #[.int .i64 0, .int .i64 0], .int .i64 0, .int .i64 10]) (by simp [results, Tryd.results19, go_sem]) rfl ⟨rfl, by go_grown⟩
set_option maxRecDepth 100000 in
set_option maxHeartbeats 1000000 in
theorem read_empty (p : Option Addr) (n c : Nat) (hn : ((n : Int) == 0) = true) (a : Int) (h1 : 0 ≤ a) (h2 : a ≤ 65535) (w : World) :
    Calls Tryd.prog 19 #[.slice p n c, .int .i64 a] w (ReadEnd w 0 0 0 11) := by
  have e1 : decide (a < 0) = false := decide_eq_false (by omega)
  have e2 : decide (65535 < a) = false := decide_eq_false (by omega)
  clear h1 h2
  go_enter Tryd.func19, Tryd.ntmps19
  go_wp2
  refine bodyPost_ret (v := .tuple #[.agg #[.int .i64 0, .int .i64 0], .int .i64 0, .int .i64 11]) (by simp [results, Tryd.results19, go_sem]) rfl ⟨rfl, by go_grown⟩
theorem first_pos {l : List Int} {x : Int} {k : Nat} (h : l[k]? = some x) : k < l.length := by
  by_cases h2 : k < l.length
  · exact h2
  · rw [List.getElem?_eq_none (by omega)] at h; cases h
theorem old_cell {w : World} {b n : Nat} {v : Value} (h : w.cell? ⟨b, n, none⟩ = some v) (o : Obj) : (w.alloc o).cell? ⟨b, n, none⟩ = some v := kc (Below.alloc (Below.refl _ _) (Nat.le_refl _) o) h
theorem two_cells {u : World} {b : Nat} {x y : Value} (h0 : u.cell? ⟨b, 0, none⟩ = some x) (h1 : u.cell? ⟨b, 1, none⟩ = some y) :
    (∀ v v2, ((u.setCell ⟨b, 0, none⟩ v).setCell ⟨b, 1, none⟩ v2).cell? ⟨b, 0, none⟩ = some v) ∧ (∀ v v2, ((u.setCell ⟨b, 0, none⟩ v).setCell ⟨b, 1, none⟩ v2).cell? ⟨b, 1, none⟩ = some v2) ∧ (∀ v, (u.setCell ⟨b, 0, none⟩ v).cell? ⟨b, 0, none⟩ = some v) := by
  have a0 : ∀ v, (u.setCell ⟨b, 0, none⟩ v).cell? ⟨b, 0, none⟩ = some v := fun v => World.cell?_setCell_same u _ v h0
  refine ⟨fun v v2 => ?_, fun v v2 => ?_, a0⟩
  · rw [World.cell?_setCell_other _ _ _ _ (by simp)]; exact a0 v
  · exact World.cell?_setCell_same _ _ v2 ((World.cell?_setCell_other u _ _ v (by simp)).trans h1)
set_option maxRecDepth 100000 in
set_option maxHeartbeats 1000000 in
theorem read_opcode (l : List Int) (b : Nat) (hl : l[0]? = some (b : Int)) (hb : b < 256) (v : Value) (a : Int) (h1 : 0 ≤ a) (h2 : a ≤ 65535)
    (hF : ∀ w, Calls Tryd.prog 28 #[.int .i64 b] w fun e w' => e = .returned (.tuple #[.int .i64 (-1), .int .i64 (-1)]) ∧ Below w.heap.size w w') (w : World) (hv : Holds w v l) :
    Calls Tryd.prog 19 #[v, .int .i64 a] w (ReadEnd w 0 0 0 13) := by
  have e1 : decide (a < 0) = false := decide_eq_false (by omega)
  have e2 : decide (65535 < a) = false := decide_eq_false (by omega)
  have wb : IntKind.i64.wrap (b : Int) = b := IntWalk.i64_in _ (by omega)
  have HF := Lib.hid hF
  obtain ⟨p, c, rfl, H⟩ := hv.form
  obtain ⟨g, o, rfl, q0⟩ := H 0 b hl
  have hpos : 0 < l.length := first_pos hl
  have e3 : ((l.length : Int) == 0) = false := by rw [beq_eq_false_iff_ne]; omega
  have hin : (0 : Int) ≤ 0 ∧ (0 : Int) < (l.length : Int) := by omega
  rw [Nat.add_zero] at q0
  have HQ := Lib.hid q0
  clear h1 h2 hF hl H hb hv q0
  go_enter Tryd.func19, Tryd.ntmps19
  have q1 := old_cell HQ.out
  go_wp2_with fail
  ((with_reducible refine (HF.out _).mono ?_); rintro _ u ⟨rfl, hb⟩)
  have T : u.cell? ⟨w.heap.size, 0, none⟩ = some (.int .i64 0) ∧ u.frozen? ⟨w.heap.size, 0, none⟩ = false ∧ u.cell? ⟨w.heap.size, 1, none⟩ = some (.int .i64 0) ∧ u.frozen? ⟨w.heap.size, 1, none⟩ = false := by
      refine ⟨?_, ?_, ?_, ?_⟩ <;> first | (refine kc hb ?_ <;> (go_simp; first | done | rfl)) | (refine kfz hb ?_ ?_ <;> first | (go_size; done) | (go_simp; done))
  have hz := hb.size
  (try simp only [World.size_alloc, World.size_setCell, World.size_drew] at hz)
  have hlx' : w.heap.size < u.heap.size := by omega
  have hB' : Below w.heap.size w u := by
      refine kb ?_ hb
      go_grown
  clear hb hz
  obtain ⟨hx_0, fx_0, hx_1, fx_1⟩ := T
  have hlx := hlx'; clear hlx'
  have hnx0 : ¬ (w.heap.size = u.heap.size) := by omega
  have hnx1 : ¬ (w.heap.size = u.heap.size + 1) := by omega
  have hkx1 : w.heap.size < u.heap.size + 1 := by omega
  have hnx2 : ¬ (w.heap.size = u.heap.size + 1 + 1) := by omega
  have hkx2 : w.heap.size < u.heap.size + 1 + 1 := by omega
  have hB := hB'; clear hB'
  have hsz := hB.size
  go_wp2
  obtain ⟨s0, s1, s2⟩ := two_cells hx_0 hx_1
  refine bodyPost_ret (v := .tuple #[.agg #[.int .i64 0, .int .i64 0], .int .i64 0, .int .i64 13]) (by simp [results, Tryd.results19, go_sem, s0, s1, s2]) rfl ⟨rfl, by go_grown⟩
set_option maxRecDepth 100000 in
set_option maxHeartbeats 1000000 in
theorem read_short (l : List Int) (b : Nat) (hl : l[0]? = some (b : Int)) (hb : b < 256) (v : Value) (a r k m : Int) (hr : 0 ≤ r) (h1 : 0 ≤ a) (h2 : a ≤ 65535)
    (hF : ∀ w, Calls Tryd.prog 28 #[.int .i64 b] w fun e w' => e = .returned (.tuple #[.int .i64 r, .int .i64 k]) ∧ Below w.heap.size w w')
    (hL : ∀ w, Calls Tryd.prog 40 #[.int .i64 k] w fun e w' => e = .returned (.int .i64 m) ∧ Below w.heap.size w w') (hm : (l.length : Int) < m) (w : World) (hv : Holds w v l) :
    Calls Tryd.prog 19 #[v, .int .i64 a] w (ReadEnd w 0 0 0 11) := by
  have e1 : decide (a < 0) = false := decide_eq_false (by omega)
  have e2 : decide (65535 < a) = false := decide_eq_false (by omega)
  have wb : IntKind.i64.wrap (b : Int) = b := IntWalk.i64_in _ (by omega)
  have HF := Lib.hid hF
  obtain ⟨p, c, rfl, H⟩ := hv.form
  obtain ⟨g, o, rfl, q0⟩ := H 0 b hl
  have hpos : 0 < l.length := first_pos hl
  have e3 : ((l.length : Int) == 0) = false := by rw [beq_eq_false_iff_ne]; omega
  have hin : (0 : Int) ≤ 0 ∧ (0 : Int) < (l.length : Int) := by omega
  have e4 : decide (r < 0) = false := decide_eq_false (by omega)
  have e5 : decide ((l.length : Int) < m) = true := decide_eq_true hm
  have HL := Lib.hid hL
  rw [Nat.add_zero] at q0
  have HQ := Lib.hid q0
  clear h1 h2 hF hL hl H hb hv q0 hr hm
  go_enter Tryd.func19, Tryd.ntmps19
  have q1 := old_cell HQ.out
  go_wp2_with fail
  ((with_reducible refine (HF.out _).mono ?_); rintro _ u ⟨rfl, hb⟩)
  have T : u.cell? ⟨w.heap.size, 0, none⟩ = some (.int .i64 0) ∧ u.frozen? ⟨w.heap.size, 0, none⟩ = false ∧ u.cell? ⟨w.heap.size, 1, none⟩ = some (.int .i64 0) ∧ u.frozen? ⟨w.heap.size, 1, none⟩ = false := by
      refine ⟨?_, ?_, ?_, ?_⟩ <;> first | (refine kc hb ?_ <;> (go_simp; first | done | rfl)) | (refine kfz hb ?_ ?_ <;> first | (go_size; done) | (go_simp; done))
  have hz := hb.size
  (try simp only [World.size_alloc, World.size_setCell, World.size_drew] at hz)
  have hlx' : w.heap.size < u.heap.size := by omega
  have hB' : Below w.heap.size w u := by
      refine kb ?_ hb
      go_grown
  clear hb hz
  obtain ⟨hx_0, fx_0, hx_1, fx_1⟩ := T
  have hlx := hlx'; clear hlx'
  have hnx0 : ¬ (w.heap.size = u.heap.size) := by omega
  have hnx1 : ¬ (w.heap.size = u.heap.size + 1) := by omega
  have hkx1 : w.heap.size < u.heap.size + 1 := by omega
  have hnx2 : ¬ (w.heap.size = u.heap.size + 1 + 1) := by omega
  have hkx2 : w.heap.size < u.heap.size + 1 + 1 := by omega
  have hB := hB'; clear hB'
  have hsz := hB.size
  go_wp2_with fail
  ((with_reducible refine (HL.out _).mono ?_); rintro _ u2 ⟨rfl, hb⟩)
  have T : u2.cell? ⟨w.heap.size, 0, none⟩ = some (.int .i64 0) ∧ u2.frozen? ⟨w.heap.size, 0, none⟩ = false ∧ u2.cell? ⟨w.heap.size, 1, none⟩ = some (.int .i64 0) ∧ u2.frozen? ⟨w.heap.size, 1, none⟩ = false := by
      refine ⟨?_, ?_, ?_, ?_⟩ <;> first | (refine kc hb ?_ <;> (go_simp; first | done | rfl)) | (refine kfz hb ?_ ?_ <;> first | (go_size; done) | (go_simp; done))
  have hz := hb.size
  (try simp only [World.size_alloc, World.size_setCell, World.size_drew] at hz)
  have hlx' : w.heap.size < u2.heap.size := by omega
  have hB' : Below w.heap.size w u2 := by
      refine kb ?_ hb
      go_grown
  clear hx_0 fx_0 hx_1 fx_1 hlx hnx0 hnx1 hkx1 hnx2 hkx2 hB hsz
  clear hb hz
  obtain ⟨hx_0, fx_0, hx_1, fx_1⟩ := T
  have hlx := hlx'; clear hlx'
  have hnx0 : ¬ (w.heap.size = u2.heap.size) := by omega
  have hnx1 : ¬ (w.heap.size = u2.heap.size + 1) := by omega
  have hkx1 : w.heap.size < u2.heap.size + 1 := by omega
  have hnx2 : ¬ (w.heap.size = u2.heap.size + 1 + 1) := by omega
  have hkx2 : w.heap.size < u2.heap.size + 1 + 1 := by omega
  have hB := hB'; clear hB'
  have hsz := hB.size
  go_wp2
  obtain ⟨s0, s1, s2⟩ := two_cells hx_0 hx_1
  refine bodyPost_ret (v := .tuple #[.agg #[.int .i64 0, .int .i64 0], .int .i64 0, .int .i64 11]) (by simp [results, Tryd.results19, go_sem, s0, s1, s2]) rfl ⟨rfl, by go_grown⟩
set_option maxRecDepth 100000 in
set_option maxHeartbeats 1000000 in
theorem read_one (l : List Int) (b : Nat) (hl : l[0]? = some (b : Int)) (hb : b < 256) (v : Value) (a r k : Int) (hr : 0 ≤ r) (h1 : 0 ≤ a) (h2 : a ≤ 65535)
    (hF : ∀ w, Calls Tryd.prog 28 #[.int .i64 b] w fun e w' => e = .returned (.tuple #[.int .i64 r, .int .i64 k]) ∧ Below w.heap.size w w')
    (hL : ∀ w, Calls Tryd.prog 40 #[.int .i64 k] w fun e w' => e = .returned (.int .i64 1) ∧ Below w.heap.size w w') (hk : (k == 12) = false) (ha : a + 1 ≤ 65536) (w : World) (hv : Holds w v l) :
    Calls Tryd.prog 19 #[v, .int .i64 a] w (ReadEnd w b 0 1 0) := by
  have e1 : decide (a < 0) = false := decide_eq_false (by omega)
  have e2 : decide (65535 < a) = false := decide_eq_false (by omega)
  have wb : IntKind.i64.wrap (b : Int) = b := IntWalk.i64_in _ (by omega)
  have HF := Lib.hid hF
  obtain ⟨p, c, rfl, H⟩ := hv.form
  obtain ⟨g, o, rfl, q0⟩ := H 0 b hl
  have hpos : 0 < l.length := first_pos hl
  have e3 : ((l.length : Int) == 0) = false := by rw [beq_eq_false_iff_ne]; omega
  have hin : (0 : Int) ≤ 0 ∧ (0 : Int) < (l.length : Int) := by omega
  have e4 : decide (r < 0) = false := decide_eq_false (by omega)
  have HL := Lib.hid hL
  rw [Nat.add_zero] at q0
  have HQ := Lib.hid q0
  have e5 : decide ((l.length : Int) < 1) = false := decide_eq_false (by omega)
  have w1 : IntKind.i64.wrap (a + 1) = a + 1 := IntWalk.i64_in _ (by omega)
  have e6 : decide (65536 < a + 1) = false := decide_eq_false (by omega)
  clear h1 h2 hF hL hl H hb hv q0 hr ha
  go_enter Tryd.func19, Tryd.ntmps19
  have q1 := old_cell HQ.out
  go_wp2_with fail
  ((with_reducible refine (HF.out _).mono ?_); rintro _ u ⟨rfl, hb⟩)
  have T : u.cell? ⟨w.heap.size, 0, none⟩ = some (.int .i64 0) ∧ u.frozen? ⟨w.heap.size, 0, none⟩ = false ∧ u.cell? ⟨w.heap.size, 1, none⟩ = some (.int .i64 0) ∧ u.frozen? ⟨w.heap.size, 1, none⟩ = false := by
      refine ⟨?_, ?_, ?_, ?_⟩ <;> first | (refine kc hb ?_ <;> (go_simp; first | done | rfl)) | (refine kfz hb ?_ ?_ <;> first | (go_size; done) | (go_simp; done))
  have hz := hb.size
  (try simp only [World.size_alloc, World.size_setCell, World.size_drew] at hz)
  have hlx' : w.heap.size < u.heap.size := by omega
  have hB' : Below w.heap.size w u := by
      refine kb ?_ hb
      go_grown
  clear hb hz
  obtain ⟨hx_0, fx_0, hx_1, fx_1⟩ := T
  have hlx := hlx'; clear hlx'
  have hnx0 : ¬ (w.heap.size = u.heap.size) := by omega
  have hnx1 : ¬ (w.heap.size = u.heap.size + 1) := by omega
  have hkx1 : w.heap.size < u.heap.size + 1 := by omega
  have hnx2 : ¬ (w.heap.size = u.heap.size + 1 + 1) := by omega
  have hkx2 : w.heap.size < u.heap.size + 1 + 1 := by omega
  have hB := hB'; clear hB'
  have hsz := hB.size
  go_wp2_with fail
  ((with_reducible refine (HL.out _).mono ?_); rintro _ u2 ⟨rfl, hb⟩)
  have T : u2.cell? ⟨w.heap.size, 0, none⟩ = some (.int .i64 0) ∧ u2.frozen? ⟨w.heap.size, 0, none⟩ = false ∧ u2.cell? ⟨w.heap.size, 1, none⟩ = some (.int .i64 0) ∧ u2.frozen? ⟨w.heap.size, 1, none⟩ = false := by
      refine ⟨?_, ?_, ?_, ?_⟩ <;> first | (refine kc hb ?_ <;> (go_simp; first | done | rfl)) | (refine kfz hb ?_ ?_ <;> first | (go_size; done) | (go_simp; done))
  have hz := hb.size
  (try simp only [World.size_alloc, World.size_setCell, World.size_drew] at hz)
  have hlx' : w.heap.size < u2.heap.size := by omega
  have hB' : Below w.heap.size w u2 := by
      refine kb ?_ hb
      go_grown
  clear hx_0 fx_0 hx_1 fx_1 hlx hnx0 hnx1 hkx1 hnx2 hkx2 hB hsz
  clear hb hz
  obtain ⟨hx_0, fx_0, hx_1, fx_1⟩ := T
  have hlx := hlx'; clear hlx'
  have hnx0 : ¬ (w.heap.size = u2.heap.size) := by omega
  have hnx1 : ¬ (w.heap.size = u2.heap.size + 1) := by omega
  have hkx1 : w.heap.size < u2.heap.size + 1 := by omega
  have hnx2 : ¬ (w.heap.size = u2.heap.size + 1 + 1) := by omega
  have hkx2 : w.heap.size < u2.heap.size + 1 + 1 := by omega
  have hB := hB'; clear hB'
  have hsz := hB.size
  have q2 := kc hB HQ.out
  have q3 := old_cell q2
  go_wp2
  obtain ⟨s0, s1, s2⟩ := two_cells hx_0 hx_1
  refine bodyPost_ret (v := .tuple #[.agg #[.int .i64 b, .int .i64 0], .int .i64 1, .int .i64 0]) (by simp [results, Tryd.results19, go_sem, s0, s1, s2, old_cell (s0 _ _), old_cell (s1 _ _)]) rfl ⟨rfl, by go_grown⟩
theorem new_cell {w : World} {b n m : Nat} {v : Value} (h : w.cell? ⟨b, n, none⟩ = some v) (o : Obj) (x : Value) : ((w.alloc o).setCell ⟨w.heap.size, m, none⟩ x).cell? ⟨b, n, none⟩ = some v := by
  have hlt := klt h
  rw [World.cell?_setCell_other _ _ _ _ (by intro e; injection e with e1; omega)]
  exact old_cell h o
set_option maxRecDepth 100000 in
set_option maxHeartbeats 1000000 in
theorem read_two (l : List Int) (b : Nat) (hl : l[0]? = some (b : Int)) (hb : b < 256) (n1 : Int) (hn1 : l[1]? = some n1) (hb1 : 0 ≤ n1 ∧ n1 < 256) (v : Value) (a r k : Int) (hr : 0 ≤ r) (h1 : 0 ≤ a) (h2 : a ≤ 65535)
    (hF : ∀ w, Calls Tryd.prog 28 #[.int .i64 b] w fun e w' => e = .returned (.tuple #[.int .i64 r, .int .i64 k]) ∧ Below w.heap.size w w')
    (hL : ∀ w, Calls Tryd.prog 40 #[.int .i64 k] w fun e w' => e = .returned (.int .i64 2) ∧ Below w.heap.size w w') (hk : (k == 12) = false) (ha : a + 2 ≤ 65536) (w : World) (hv : Holds w v l) :
    Calls Tryd.prog 19 #[v, .int .i64 a] w (ReadEnd w b n1 2 0) := by
  have e1 : decide (a < 0) = false := decide_eq_false (by omega)
  have e2 : decide (65535 < a) = false := decide_eq_false (by omega)
  have wb : IntKind.i64.wrap (b : Int) = b := IntWalk.i64_in _ (by omega)
  have HF := Lib.hid hF
  obtain ⟨p, c, rfl, H⟩ := hv.form
  obtain ⟨g, o, rfl, q0⟩ := H 0 b hl
  have hpos : 0 < l.length := first_pos hl
  have e3 : ((l.length : Int) == 0) = false := by rw [beq_eq_false_iff_ne]; omega
  have hin : (0 : Int) ≤ 0 ∧ (0 : Int) < (l.length : Int) := by omega
  have e4 : decide (r < 0) = false := decide_eq_false (by omega)
  have HL := Lib.hid hL
  rw [Nat.add_zero] at q0
  have HQ := Lib.hid q0
  obtain ⟨g', o', e, q1⟩ := H 1 n1 hn1
  cases e
  have hin1 : (0 : Int) ≤ 1 ∧ (1 : Int) < (l.length : Int) := by have := first_pos hn1; omega
  have HQ1 := Lib.hid q1
  have e5 : decide ((l.length : Int) < 2) = false := decide_eq_false (by omega)
  have w1 : IntKind.i64.wrap (a + 2) = a + 2 := IntWalk.i64_in _ (by omega)
  have e6 : decide (65536 < a + 2) = false := decide_eq_false (by omega)
  have w2 : IntKind.i64.wrap n1 = n1 := IntWalk.i64_in _ (by omega)
  have e7 : decide (n1 < 0) = false := decide_eq_false (by omega)
  have e8 : decide (65535 < n1) = false := decide_eq_false (by omega)
  clear h1 h2 hF hL hl H hb hv q0 hr ha q1 hn1 hb1
  go_enter Tryd.func19, Tryd.ntmps19
  have q1 := old_cell HQ.out
  go_wp2_with fail
  ((with_reducible refine (HF.out _).mono ?_); rintro _ u ⟨rfl, hb⟩)
  have T : u.cell? ⟨w.heap.size, 0, none⟩ = some (.int .i64 0) ∧ u.frozen? ⟨w.heap.size, 0, none⟩ = false ∧ u.cell? ⟨w.heap.size, 1, none⟩ = some (.int .i64 0) ∧ u.frozen? ⟨w.heap.size, 1, none⟩ = false := by
      refine ⟨?_, ?_, ?_, ?_⟩ <;> first | (refine kc hb ?_ <;> (go_simp; first | done | rfl)) | (refine kfz hb ?_ ?_ <;> first | (go_size; done) | (go_simp; done))
  have hz := hb.size
  (try simp only [World.size_alloc, World.size_setCell, World.size_drew] at hz)
  have hlx' : w.heap.size < u.heap.size := by omega
  have hB' : Below w.heap.size w u := by
      refine kb ?_ hb
      go_grown
  clear hb hz
  obtain ⟨hx_0, fx_0, hx_1, fx_1⟩ := T
  have hlx := hlx'; clear hlx'
  have hnx0 : ¬ (w.heap.size = u.heap.size) := by omega
  have hnx1 : ¬ (w.heap.size = u.heap.size + 1) := by omega
  have hkx1 : w.heap.size < u.heap.size + 1 := by omega
  have hnx2 : ¬ (w.heap.size = u.heap.size + 1 + 1) := by omega
  have hkx2 : w.heap.size < u.heap.size + 1 + 1 := by omega
  have hB := hB'; clear hB'
  have hsz := hB.size
  go_wp2_with fail
  ((with_reducible refine (HL.out _).mono ?_); rintro _ u2 ⟨rfl, hb⟩)
  have T : u2.cell? ⟨w.heap.size, 0, none⟩ = some (.int .i64 0) ∧ u2.frozen? ⟨w.heap.size, 0, none⟩ = false ∧ u2.cell? ⟨w.heap.size, 1, none⟩ = some (.int .i64 0) ∧ u2.frozen? ⟨w.heap.size, 1, none⟩ = false := by
      refine ⟨?_, ?_, ?_, ?_⟩ <;> first | (refine kc hb ?_ <;> (go_simp; first | done | rfl)) | (refine kfz hb ?_ ?_ <;> first | (go_size; done) | (go_simp; done))
  have hz := hb.size
  (try simp only [World.size_alloc, World.size_setCell, World.size_drew] at hz)
  have hlx' : w.heap.size < u2.heap.size := by omega
  have hB' : Below w.heap.size w u2 := by
      refine kb ?_ hb
      go_grown
  clear hx_0 fx_0 hx_1 fx_1 hlx hnx0 hnx1 hkx1 hnx2 hkx2 hB hsz
  clear hb hz
  obtain ⟨hx_0, fx_0, hx_1, fx_1⟩ := T
  have hlx := hlx'; clear hlx'
  have hnx0 : ¬ (w.heap.size = u2.heap.size) := by omega
  have hnx1 : ¬ (w.heap.size = u2.heap.size + 1) := by omega
  have hkx1 : w.heap.size < u2.heap.size + 1 := by omega
  have hnx2 : ¬ (w.heap.size = u2.heap.size + 1 + 1) := by omega
  have hkx2 : w.heap.size < u2.heap.size + 1 + 1 := by omega
  have hB := hB'; clear hB'
  have hsz := hB.size
  have q2 := kc hB HQ.out
  have q3 := old_cell q2
  have p1 := kc hB HQ1.out
  have r1 := old_cell p1
  clear p1
  go_wp2
  obtain ⟨s0, s1, s2⟩ := two_cells hx_0 hx_1
  refine bodyPost_ret (v := .tuple #[.agg #[.int .i64 b, .int .i64 n1], .int .i64 2, .int .i64 0]) (by simp [results, Tryd.results19, go_sem, s0, s1, s2, old_cell (s0 _ _), old_cell (s1 _ _)]) rfl ⟨rfl, by go_grown⟩
set_option maxRecDepth 100000 in
set_option maxHeartbeats 1000000 in
theorem read_two_out (l : List Int) (b : Nat) (hl : l[0]? = some (b : Int)) (hb : b < 256) (n1 : Int) (hn1 : l[1]? = some n1) (hb1 : 0 ≤ n1 ∧ n1 < 256) (v : Value) (a r k : Int) (hr : 0 ≤ r) (h1 : 0 ≤ a) (h2 : a ≤ 65535)
    (hF : ∀ w, Calls Tryd.prog 28 #[.int .i64 b] w fun e w' => e = .returned (.tuple #[.int .i64 r, .int .i64 k]) ∧ Below w.heap.size w w')
    (hL : ∀ w, Calls Tryd.prog 40 #[.int .i64 k] w fun e w' => e = .returned (.int .i64 2) ∧ Below w.heap.size w w') (hk : (k == 12) = false) (ha : 65536 < a + 2) (w : World) (hv : Holds w v l) :
    Calls Tryd.prog 19 #[v, .int .i64 a] w (ReadEnd w 0 0 0 10) := by
  have e1 : decide (a < 0) = false := decide_eq_false (by omega)
  have e2 : decide (65535 < a) = false := decide_eq_false (by omega)
  have wb : IntKind.i64.wrap (b : Int) = b := IntWalk.i64_in _ (by omega)
  have HF := Lib.hid hF
  obtain ⟨p, c, rfl, H⟩ := hv.form
  obtain ⟨g, o, rfl, q0⟩ := H 0 b hl
  have hpos : 0 < l.length := first_pos hl
  have e3 : ((l.length : Int) == 0) = false := by rw [beq_eq_false_iff_ne]; omega
  have hin : (0 : Int) ≤ 0 ∧ (0 : Int) < (l.length : Int) := by omega
  have e4 : decide (r < 0) = false := decide_eq_false (by omega)
  have HL := Lib.hid hL
  rw [Nat.add_zero] at q0
  have HQ := Lib.hid q0
  obtain ⟨g', o', e, q1⟩ := H 1 n1 hn1
  cases e
  have hin1 : (0 : Int) ≤ 1 ∧ (1 : Int) < (l.length : Int) := by have := first_pos hn1; omega
  have HQ1 := Lib.hid q1
  have e5 : decide ((l.length : Int) < 2) = false := decide_eq_false (by omega)
  have w1 : IntKind.i64.wrap (a + 2) = a + 2 := IntWalk.i64_in _ (by omega)
  have e6 : decide (65536 < a + 2) = true := decide_eq_true (by omega)
  have w2 : IntKind.i64.wrap n1 = n1 := IntWalk.i64_in _ (by omega)
  clear h1 h2 hF hL hl H hb hv q0 hr ha q1 hn1 hb1
  go_enter Tryd.func19, Tryd.ntmps19
  have q1 := old_cell HQ.out
  go_wp2_with fail
  ((with_reducible refine (HF.out _).mono ?_); rintro _ u ⟨rfl, hb⟩)
  have T : u.cell? ⟨w.heap.size, 0, none⟩ = some (.int .i64 0) ∧ u.frozen? ⟨w.heap.size, 0, none⟩ = false ∧ u.cell? ⟨w.heap.size, 1, none⟩ = some (.int .i64 0) ∧ u.frozen? ⟨w.heap.size, 1, none⟩ = false := by
      refine ⟨?_, ?_, ?_, ?_⟩ <;> first | (refine kc hb ?_ <;> (go_simp; first | done | rfl)) | (refine kfz hb ?_ ?_ <;> first | (go_size; done) | (go_simp; done))
  have hz := hb.size
  (try simp only [World.size_alloc, World.size_setCell, World.size_drew] at hz)
  have hlx' : w.heap.size < u.heap.size := by omega
  have hB' : Below w.heap.size w u := by
      refine kb ?_ hb
      go_grown
  clear hb hz
  obtain ⟨hx_0, fx_0, hx_1, fx_1⟩ := T
  have hlx := hlx'; clear hlx'
  have hnx0 : ¬ (w.heap.size = u.heap.size) := by omega
  have hnx1 : ¬ (w.heap.size = u.heap.size + 1) := by omega
  have hkx1 : w.heap.size < u.heap.size + 1 := by omega
  have hnx2 : ¬ (w.heap.size = u.heap.size + 1 + 1) := by omega
  have hkx2 : w.heap.size < u.heap.size + 1 + 1 := by omega
  have hB := hB'; clear hB'
  have hsz := hB.size
  go_wp2_with fail
  ((with_reducible refine (HL.out _).mono ?_); rintro _ u2 ⟨rfl, hb⟩)
  have T : u2.cell? ⟨w.heap.size, 0, none⟩ = some (.int .i64 0) ∧ u2.frozen? ⟨w.heap.size, 0, none⟩ = false ∧ u2.cell? ⟨w.heap.size, 1, none⟩ = some (.int .i64 0) ∧ u2.frozen? ⟨w.heap.size, 1, none⟩ = false := by
      refine ⟨?_, ?_, ?_, ?_⟩ <;> first | (refine kc hb ?_ <;> (go_simp; first | done | rfl)) | (refine kfz hb ?_ ?_ <;> first | (go_size; done) | (go_simp; done))
  have hz := hb.size
  (try simp only [World.size_alloc, World.size_setCell, World.size_drew] at hz)
  have hlx' : w.heap.size < u2.heap.size := by omega
  have hB' : Below w.heap.size w u2 := by
      refine kb ?_ hb
      go_grown
  clear hx_0 fx_0 hx_1 fx_1 hlx hnx0 hnx1 hkx1 hnx2 hkx2 hB hsz
  clear hb hz
  obtain ⟨hx_0, fx_0, hx_1, fx_1⟩ := T
  have hlx := hlx'; clear hlx'
  have hnx0 : ¬ (w.heap.size = u2.heap.size) := by omega
  have hnx1 : ¬ (w.heap.size = u2.heap.size + 1) := by omega
  have hkx1 : w.heap.size < u2.heap.size + 1 := by omega
  have hnx2 : ¬ (w.heap.size = u2.heap.size + 1 + 1) := by omega
  have hkx2 : w.heap.size < u2.heap.size + 1 + 1 := by omega
  have hB := hB'; clear hB'
  have hsz := hB.size
  have q2 := kc hB HQ.out
  have q3 := old_cell q2
  have p1 := kc hB HQ1.out
  have r1 := old_cell p1
  clear p1
  go_wp2
  obtain ⟨s0, s1, s2⟩ := two_cells hx_0 hx_1
  refine bodyPost_ret (v := .tuple #[.agg #[.int .i64 0, .int .i64 0], .int .i64 0, .int .i64 10]) (by simp [results, Tryd.results19, go_sem, s0, s1, s2, old_cell (s0 _ _), old_cell (s1 _ _)]) rfl ⟨rfl, by go_grown⟩
set_option maxRecDepth 100000 in
set_option maxHeartbeats 1000000 in
theorem read_three (l : List Int) (b : Nat) (hl : l[0]? = some (b : Int)) (hb : b < 256) (n1 : Int) (hn1 : l[1]? = some n1) (hb1 : 0 ≤ n1 ∧ n1 < 256) (n2 : Int) (hn2 : l[2]? = some n2) (hb2 : 0 ≤ n2 ∧ n2 < 256) (v : Value) (a r k : Int) (hr : 0 ≤ r) (h1 : 0 ≤ a) (h2 : a ≤ 65535)
    (hF : ∀ w, Calls Tryd.prog 28 #[.int .i64 b] w fun e w' => e = .returned (.tuple #[.int .i64 r, .int .i64 k]) ∧ Below w.heap.size w w')
    (hL : ∀ w, Calls Tryd.prog 40 #[.int .i64 k] w fun e w' => e = .returned (.int .i64 3) ∧ Below w.heap.size w w') (hk : (k == 12) = false) (ha : a + 3 ≤ 65536) (w : World) (hv : Holds w v l) :
    Calls Tryd.prog 19 #[v, .int .i64 a] w (ReadEnd w b (n1 + 256 * n2) 3 0) := by
  have e1 : decide (a < 0) = false := decide_eq_false (by omega)
  have e2 : decide (65535 < a) = false := decide_eq_false (by omega)
  have wb : IntKind.i64.wrap (b : Int) = b := IntWalk.i64_in _ (by omega)
  have HF := Lib.hid hF
  obtain ⟨p, c, rfl, H⟩ := hv.form
  obtain ⟨g, o, rfl, q0⟩ := H 0 b hl
  have hpos : 0 < l.length := first_pos hl
  have e3 : ((l.length : Int) == 0) = false := by rw [beq_eq_false_iff_ne]; omega
  have hin : (0 : Int) ≤ 0 ∧ (0 : Int) < (l.length : Int) := by omega
  have e4 : decide (r < 0) = false := decide_eq_false (by omega)
  have HL := Lib.hid hL
  rw [Nat.add_zero] at q0
  have HQ := Lib.hid q0
  obtain ⟨g', o', e, q1⟩ := H 1 n1 hn1
  cases e
  have hin1 : (0 : Int) ≤ 1 ∧ (1 : Int) < (l.length : Int) := by have := first_pos hn1; omega
  have HQ1 := Lib.hid q1
  obtain ⟨g', o', e, q2⟩ := H 2 n2 hn2
  cases e
  have hin2 : (0 : Int) ≤ 2 ∧ (2 : Int) < (l.length : Int) := by have := first_pos hn2; omega
  have HQ2 := Lib.hid q2
  have e5 : decide ((l.length : Int) < 3) = false := decide_eq_false (by omega)
  have w1 : IntKind.i64.wrap (a + 3) = a + 3 := IntWalk.i64_in _ (by omega)
  have w2 : IntKind.i64.wrap n1 = n1 := IntWalk.i64_in _ (by omega)
  have w3 : IntKind.i64.wrap n2 = n2 := IntWalk.i64_in _ (by omega)
  have w4 : IntKind.i64.wrap (256 * n2) = 256 * n2 := IntWalk.i64_in _ (by omega)
  have w5 : IntKind.i64.wrap (n1 + 256 * n2) = n1 + 256 * n2 := IntWalk.i64_in _ (by omega)
  have e6 : decide (65536 < a + 3) = false := decide_eq_false (by omega)
  have e7 : decide (n1 + 256 * n2 < 0) = false := decide_eq_false (by omega)
  have e8 : decide (65535 < n1 + 256 * n2) = false := decide_eq_false (by omega)
  clear h1 h2 hF hL hl H hb hv q0 hr ha q1 hn1 hb1 q2 hn2 hb2
  go_enter Tryd.func19, Tryd.ntmps19
  have q1 := old_cell HQ.out
  go_wp2_with fail
  ((with_reducible refine (HF.out _).mono ?_); rintro _ u ⟨rfl, hb⟩)
  have T : u.cell? ⟨w.heap.size, 0, none⟩ = some (.int .i64 0) ∧ u.frozen? ⟨w.heap.size, 0, none⟩ = false ∧ u.cell? ⟨w.heap.size, 1, none⟩ = some (.int .i64 0) ∧ u.frozen? ⟨w.heap.size, 1, none⟩ = false := by
      refine ⟨?_, ?_, ?_, ?_⟩ <;> first | (refine kc hb ?_ <;> (go_simp; first | done | rfl)) | (refine kfz hb ?_ ?_ <;> first | (go_size; done) | (go_simp; done))
  have hz := hb.size
  (try simp only [World.size_alloc, World.size_setCell, World.size_drew] at hz)
  have hlx' : w.heap.size < u.heap.size := by omega
  have hB' : Below w.heap.size w u := by
      refine kb ?_ hb
      go_grown
  clear hb hz
  obtain ⟨hx_0, fx_0, hx_1, fx_1⟩ := T
  have hlx := hlx'; clear hlx'
  have hnx0 : ¬ (w.heap.size = u.heap.size) := by omega
  have hnx1 : ¬ (w.heap.size = u.heap.size + 1) := by omega
  have hkx1 : w.heap.size < u.heap.size + 1 := by omega
  have hnx2 : ¬ (w.heap.size = u.heap.size + 1 + 1) := by omega
  have hkx2 : w.heap.size < u.heap.size + 1 + 1 := by omega
  have hB := hB'; clear hB'
  have hsz := hB.size
  go_wp2_with fail
  ((with_reducible refine (HL.out _).mono ?_); rintro _ u2 ⟨rfl, hb⟩)
  have T : u2.cell? ⟨w.heap.size, 0, none⟩ = some (.int .i64 0) ∧ u2.frozen? ⟨w.heap.size, 0, none⟩ = false ∧ u2.cell? ⟨w.heap.size, 1, none⟩ = some (.int .i64 0) ∧ u2.frozen? ⟨w.heap.size, 1, none⟩ = false := by
      refine ⟨?_, ?_, ?_, ?_⟩ <;> first | (refine kc hb ?_ <;> (go_simp; first | done | rfl)) | (refine kfz hb ?_ ?_ <;> first | (go_size; done) | (go_simp; done))
  have hz := hb.size
  (try simp only [World.size_alloc, World.size_setCell, World.size_drew] at hz)
  have hlx' : w.heap.size < u2.heap.size := by omega
  have hB' : Below w.heap.size w u2 := by
      refine kb ?_ hb
      go_grown
  clear hx_0 fx_0 hx_1 fx_1 hlx hnx0 hnx1 hkx1 hnx2 hkx2 hB hsz
  clear hb hz
  obtain ⟨hx_0, fx_0, hx_1, fx_1⟩ := T
  have hlx := hlx'; clear hlx'
  have hnx0 : ¬ (w.heap.size = u2.heap.size) := by omega
  have hnx1 : ¬ (w.heap.size = u2.heap.size + 1) := by omega
  have hkx1 : w.heap.size < u2.heap.size + 1 := by omega
  have hnx2 : ¬ (w.heap.size = u2.heap.size + 1 + 1) := by omega
  have hkx2 : w.heap.size < u2.heap.size + 1 + 1 := by omega
  have hB := hB'; clear hB'
  have hsz := hB.size
  have q2 := kc hB HQ.out
  have q3 := old_cell q2
  have p1 := kc hB HQ1.out
  have r1 := old_cell p1
  clear p1
  have p2 := kc hB HQ2.out
  have r2 := old_cell p2
  have r2' := fun O v => new_cell (m := 1) p2 O v
  clear p2
  go_wp2
  go_region
  all_goals go_wp2
  obtain ⟨s0, s1, s2⟩ := two_cells hx_0 hx_1
  refine bodyPost_ret (v := .tuple #[.agg #[.int .i64 b, .int .i64 (n1 + 256 * n2)], .int .i64 3, .int .i64 0]) (by simp [results, Tryd.results19, go_sem, s0, s1, s2, old_cell (s0 _ _), old_cell (s1 _ _)]) rfl ⟨rfl, by go_grown⟩
set_option maxRecDepth 100000 in
set_option maxHeartbeats 1000000 in
theorem read_three_out (l : List Int) (b : Nat) (hl : l[0]? = some (b : Int)) (hb : b < 256) (n1 : Int) (hn1 : l[1]? = some n1) (hb1 : 0 ≤ n1 ∧ n1 < 256) (n2 : Int) (hn2 : l[2]? = some n2) (hb2 : 0 ≤ n2 ∧ n2 < 256) (v : Value) (a r k : Int) (hr : 0 ≤ r) (h1 : 0 ≤ a) (h2 : a ≤ 65535)
    (hF : ∀ w, Calls Tryd.prog 28 #[.int .i64 b] w fun e w' => e = .returned (.tuple #[.int .i64 r, .int .i64 k]) ∧ Below w.heap.size w w')
    (hL : ∀ w, Calls Tryd.prog 40 #[.int .i64 k] w fun e w' => e = .returned (.int .i64 3) ∧ Below w.heap.size w w') (hk : (k == 12) = false) (ha : 65536 < a + 3) (w : World) (hv : Holds w v l) :
    Calls Tryd.prog 19 #[v, .int .i64 a] w (ReadEnd w 0 0 0 10) := by
  have e1 : decide (a < 0) = false := decide_eq_false (by omega)
  have e2 : decide (65535 < a) = false := decide_eq_false (by omega)
  have wb : IntKind.i64.wrap (b : Int) = b := IntWalk.i64_in _ (by omega)
  have HF := Lib.hid hF
  obtain ⟨p, c, rfl, H⟩ := hv.form
  obtain ⟨g, o, rfl, q0⟩ := H 0 b hl
  have hpos : 0 < l.length := first_pos hl
  have e3 : ((l.length : Int) == 0) = false := by rw [beq_eq_false_iff_ne]; omega
  have hin : (0 : Int) ≤ 0 ∧ (0 : Int) < (l.length : Int) := by omega
  have e4 : decide (r < 0) = false := decide_eq_false (by omega)
  have HL := Lib.hid hL
  rw [Nat.add_zero] at q0
  have HQ := Lib.hid q0
  obtain ⟨g', o', e, q1⟩ := H 1 n1 hn1
  cases e
  have hin1 : (0 : Int) ≤ 1 ∧ (1 : Int) < (l.length : Int) := by have := first_pos hn1; omega
  have HQ1 := Lib.hid q1
  obtain ⟨g', o', e, q2⟩ := H 2 n2 hn2
  cases e
  have hin2 : (0 : Int) ≤ 2 ∧ (2 : Int) < (l.length : Int) := by have := first_pos hn2; omega
  have HQ2 := Lib.hid q2
  have e5 : decide ((l.length : Int) < 3) = false := decide_eq_false (by omega)
  have w1 : IntKind.i64.wrap (a + 3) = a + 3 := IntWalk.i64_in _ (by omega)
  have w2 : IntKind.i64.wrap n1 = n1 := IntWalk.i64_in _ (by omega)
  have w3 : IntKind.i64.wrap n2 = n2 := IntWalk.i64_in _ (by omega)
  have w4 : IntKind.i64.wrap (256 * n2) = 256 * n2 := IntWalk.i64_in _ (by omega)
  have w5 : IntKind.i64.wrap (n1 + 256 * n2) = n1 + 256 * n2 := IntWalk.i64_in _ (by omega)
  have e6 : decide (65536 < a + 3) = true := decide_eq_true (by omega)
  clear h1 h2 hF hL hl H hb hv q0 hr ha q1 hn1 hb1 q2 hn2 hb2
  go_enter Tryd.func19, Tryd.ntmps19
  have q1 := old_cell HQ.out
  go_wp2_with fail
  ((with_reducible refine (HF.out _).mono ?_); rintro _ u ⟨rfl, hb⟩)
  have T : u.cell? ⟨w.heap.size, 0, none⟩ = some (.int .i64 0) ∧ u.frozen? ⟨w.heap.size, 0, none⟩ = false ∧ u.cell? ⟨w.heap.size, 1, none⟩ = some (.int .i64 0) ∧ u.frozen? ⟨w.heap.size, 1, none⟩ = false := by
      refine ⟨?_, ?_, ?_, ?_⟩ <;> first | (refine kc hb ?_ <;> (go_simp; first | done | rfl)) | (refine kfz hb ?_ ?_ <;> first | (go_size; done) | (go_simp; done))
  have hz := hb.size
  (try simp only [World.size_alloc, World.size_setCell, World.size_drew] at hz)
  have hlx' : w.heap.size < u.heap.size := by omega
  have hB' : Below w.heap.size w u := by
      refine kb ?_ hb
      go_grown
  clear hb hz
  obtain ⟨hx_0, fx_0, hx_1, fx_1⟩ := T
  have hlx := hlx'; clear hlx'
  have hnx0 : ¬ (w.heap.size = u.heap.size) := by omega
  have hnx1 : ¬ (w.heap.size = u.heap.size + 1) := by omega
  have hkx1 : w.heap.size < u.heap.size + 1 := by omega
  have hnx2 : ¬ (w.heap.size = u.heap.size + 1 + 1) := by omega
  have hkx2 : w.heap.size < u.heap.size + 1 + 1 := by omega
  have hB := hB'; clear hB'
  have hsz := hB.size
  go_wp2_with fail
  ((with_reducible refine (HL.out _).mono ?_); rintro _ u2 ⟨rfl, hb⟩)
  have T : u2.cell? ⟨w.heap.size, 0, none⟩ = some (.int .i64 0) ∧ u2.frozen? ⟨w.heap.size, 0, none⟩ = false ∧ u2.cell? ⟨w.heap.size, 1, none⟩ = some (.int .i64 0) ∧ u2.frozen? ⟨w.heap.size, 1, none⟩ = false := by
      refine ⟨?_, ?_, ?_, ?_⟩ <;> first | (refine kc hb ?_ <;> (go_simp; first | done | rfl)) | (refine kfz hb ?_ ?_ <;> first | (go_size; done) | (go_simp; done))
  have hz := hb.size
  (try simp only [World.size_alloc, World.size_setCell, World.size_drew] at hz)
  have hlx' : w.heap.size < u2.heap.size := by omega
  have hB' : Below w.heap.size w u2 := by
      refine kb ?_ hb
      go_grown
  clear hx_0 fx_0 hx_1 fx_1 hlx hnx0 hnx1 hkx1 hnx2 hkx2 hB hsz
  clear hb hz
  obtain ⟨hx_0, fx_0, hx_1, fx_1⟩ := T
  have hlx := hlx'; clear hlx'
  have hnx0 : ¬ (w.heap.size = u2.heap.size) := by omega
  have hnx1 : ¬ (w.heap.size = u2.heap.size + 1) := by omega
  have hkx1 : w.heap.size < u2.heap.size + 1 := by omega
  have hnx2 : ¬ (w.heap.size = u2.heap.size + 1 + 1) := by omega
  have hkx2 : w.heap.size < u2.heap.size + 1 + 1 := by omega
  have hB := hB'; clear hB'
  have hsz := hB.size
  have q2 := kc hB HQ.out
  have q3 := old_cell q2
  have p1 := kc hB HQ1.out
  have r1 := old_cell p1
  clear p1
  have p2 := kc hB HQ2.out
  have r2 := old_cell p2
  have r2' := fun O v => new_cell (m := 1) p2 O v
  clear p2
  go_wp2
  go_region
  all_goals go_wp2
  obtain ⟨s0, s1, s2⟩ := two_cells hx_0 hx_1
  refine bodyPost_ret (v := .tuple #[.agg #[.int .i64 0, .int .i64 0], .int .i64 0, .int .i64 10]) (by simp [results, Tryd.results19, go_sem, s0, s1, s2, old_cell (s0 _ _), old_cell (s1 _ _)]) rfl ⟨rfl, by go_grown⟩
set_option maxRecDepth 100000 in
set_option maxHeartbeats 1000000 in
theorem read_rel_low (l : List Int) (b : Nat) (hl : l[0]? = some (b : Int)) (hb : b < 256) (n1 : Int) (hn1 : l[1]? = some n1) (hb1 : 0 ≤ n1 ∧ n1 < 256) (v : Value) (a r k : Int) (hr : 0 ≤ r) (h1 : 0 ≤ a) (h2 : a ≤ 65535)
    (hF : ∀ w, Calls Tryd.prog 28 #[.int .i64 b] w fun e w' => e = .returned (.tuple #[.int .i64 r, .int .i64 k]) ∧ Below w.heap.size w w')
    (hL : ∀ w, Calls Tryd.prog 40 #[.int .i64 k] w fun e w' => e = .returned (.int .i64 2) ∧ Below w.heap.size w w') (hk : k = 12) (ha : a + 2 ≤ 65536 ∧ 0 ≤ (a + 2 + n1) ∧ (a + 2 + n1) ≤ 65535) (hc : n1 ≤ 127) (w : World) (hv : Holds w v l) :
    Calls Tryd.prog 19 #[v, .int .i64 a] w (ReadEnd w b (a + 2 + n1) 2 0) := by
  have e1 : decide (a < 0) = false := decide_eq_false (by omega)
  have e2 : decide (65535 < a) = false := decide_eq_false (by omega)
  have wb : IntKind.i64.wrap (b : Int) = b := IntWalk.i64_in _ (by omega)
  have HF := Lib.hid hF
  obtain ⟨p, c, rfl, H⟩ := hv.form
  obtain ⟨g, o, rfl, q0⟩ := H 0 b hl
  have hpos : 0 < l.length := first_pos hl
  have e3 : ((l.length : Int) == 0) = false := by rw [beq_eq_false_iff_ne]; omega
  have hin : (0 : Int) ≤ 0 ∧ (0 : Int) < (l.length : Int) := by omega
  have e4 : decide (r < 0) = false := decide_eq_false (by omega)
  have HL := Lib.hid hL
  rw [Nat.add_zero] at q0
  have HQ := Lib.hid q0
  obtain ⟨g', o', e, q1⟩ := H 1 n1 hn1
  cases e
  have hin1 : (0 : Int) ≤ 1 ∧ (1 : Int) < (l.length : Int) := by have := first_pos hn1; omega
  have HQ1 := Lib.hid q1
  subst hk
  have e5 : decide ((l.length : Int) < 2) = false := decide_eq_false (by omega)
  have w1 : IntKind.i64.wrap (a + 2) = a + 2 := IntWalk.i64_in _ (by omega)
  have w2 : IntKind.i64.wrap n1 = n1 := IntWalk.i64_in _ (by omega)
  have w3 : IntKind.i64.wrap (a + 2 + n1) = a + 2 + n1 := IntWalk.i64_in _ (by omega)
  have e9 : decide (127 < n1) = false := decide_eq_false (by omega)
  have e6 : decide (65536 < a + 2) = false := decide_eq_false (by omega)
  have e7 : decide ((a + 2 + n1) < 0) = false := decide_eq_false (by omega)
  have e8 : decide (65535 < (a + 2 + n1)) = false := decide_eq_false (by omega)
  clear h1 h2 hF hL hl H hb hv q0 hr ha q1 hn1 hb1 hc
  go_enter Tryd.func19, Tryd.ntmps19
  have q1 := old_cell HQ.out
  go_wp2_with fail
  ((with_reducible refine (HF.out _).mono ?_); rintro _ u ⟨rfl, hb⟩)
  have T : u.cell? ⟨w.heap.size, 0, none⟩ = some (.int .i64 0) ∧ u.frozen? ⟨w.heap.size, 0, none⟩ = false ∧ u.cell? ⟨w.heap.size, 1, none⟩ = some (.int .i64 0) ∧ u.frozen? ⟨w.heap.size, 1, none⟩ = false := by
      refine ⟨?_, ?_, ?_, ?_⟩ <;> first | (refine kc hb ?_ <;> (go_simp; first | done | rfl)) | (refine kfz hb ?_ ?_ <;> first | (go_size; done) | (go_simp; done))
  have hz := hb.size
  (try simp only [World.size_alloc, World.size_setCell, World.size_drew] at hz)
  have hlx' : w.heap.size < u.heap.size := by omega
  have hB' : Below w.heap.size w u := by
      refine kb ?_ hb
      go_grown
  clear hb hz
  obtain ⟨hx_0, fx_0, hx_1, fx_1⟩ := T
  have hlx := hlx'; clear hlx'
  have hnx0 : ¬ (w.heap.size = u.heap.size) := by omega
  have hnx1 : ¬ (w.heap.size = u.heap.size + 1) := by omega
  have hkx1 : w.heap.size < u.heap.size + 1 := by omega
  have hnx2 : ¬ (w.heap.size = u.heap.size + 1 + 1) := by omega
  have hkx2 : w.heap.size < u.heap.size + 1 + 1 := by omega
  have hB := hB'; clear hB'
  have hsz := hB.size
  go_wp2_with fail
  ((with_reducible refine (HL.out _).mono ?_); rintro _ u2 ⟨rfl, hb⟩)
  have T : u2.cell? ⟨w.heap.size, 0, none⟩ = some (.int .i64 0) ∧ u2.frozen? ⟨w.heap.size, 0, none⟩ = false ∧ u2.cell? ⟨w.heap.size, 1, none⟩ = some (.int .i64 0) ∧ u2.frozen? ⟨w.heap.size, 1, none⟩ = false := by
      refine ⟨?_, ?_, ?_, ?_⟩ <;> first | (refine kc hb ?_ <;> (go_simp; first | done | rfl)) | (refine kfz hb ?_ ?_ <;> first | (go_size; done) | (go_simp; done))
  have hz := hb.size
  (try simp only [World.size_alloc, World.size_setCell, World.size_drew] at hz)
  have hlx' : w.heap.size < u2.heap.size := by omega
  have hB' : Below w.heap.size w u2 := by
      refine kb ?_ hb
      go_grown
  clear hx_0 fx_0 hx_1 fx_1 hlx hnx0 hnx1 hkx1 hnx2 hkx2 hB hsz
  clear hb hz
  obtain ⟨hx_0, fx_0, hx_1, fx_1⟩ := T
  have hlx := hlx'; clear hlx'
  have hnx0 : ¬ (w.heap.size = u2.heap.size) := by omega
  have hnx1 : ¬ (w.heap.size = u2.heap.size + 1) := by omega
  have hkx1 : w.heap.size < u2.heap.size + 1 := by omega
  have hnx2 : ¬ (w.heap.size = u2.heap.size + 1 + 1) := by omega
  have hkx2 : w.heap.size < u2.heap.size + 1 + 1 := by omega
  have hB := hB'; clear hB'
  have hsz := hB.size
  have q2 := kc hB HQ.out
  have q3 := old_cell q2
  have p1 := kc hB HQ1.out
  have r1 := old_cell p1
  clear p1
  go_wp2
  obtain ⟨s0, s1, s2⟩ := two_cells hx_0 hx_1
  refine bodyPost_ret (v := .tuple #[.agg #[.int .i64 b, .int .i64 (a + 2 + n1)], .int .i64 2, .int .i64 0]) (by simp [results, Tryd.results19, go_sem, s0, s1, s2, old_cell (s0 _ _), old_cell (s1 _ _)]) rfl ⟨rfl, by go_grown⟩
set_option maxRecDepth 100000 in
set_option maxHeartbeats 1000000 in
theorem read_rel_high (l : List Int) (b : Nat) (hl : l[0]? = some (b : Int)) (hb : b < 256) (n1 : Int) (hn1 : l[1]? = some n1) (hb1 : 0 ≤ n1 ∧ n1 < 256) (v : Value) (a r k : Int) (hr : 0 ≤ r) (h1 : 0 ≤ a) (h2 : a ≤ 65535)
    (hF : ∀ w, Calls Tryd.prog 28 #[.int .i64 b] w fun e w' => e = .returned (.tuple #[.int .i64 r, .int .i64 k]) ∧ Below w.heap.size w w')
    (hL : ∀ w, Calls Tryd.prog 40 #[.int .i64 k] w fun e w' => e = .returned (.int .i64 2) ∧ Below w.heap.size w w') (hk : k = 12) (ha : a + 2 ≤ 65536 ∧ 0 ≤ (a + 2 + (n1 - 256)) ∧ (a + 2 + (n1 - 256)) ≤ 65535) (hc : 127 < n1) (w : World) (hv : Holds w v l) :
    Calls Tryd.prog 19 #[v, .int .i64 a] w (ReadEnd w b (a + 2 + (n1 - 256)) 2 0) := by
  have e1 : decide (a < 0) = false := decide_eq_false (by omega)
  have e2 : decide (65535 < a) = false := decide_eq_false (by omega)
  have wb : IntKind.i64.wrap (b : Int) = b := IntWalk.i64_in _ (by omega)
  have HF := Lib.hid hF
  obtain ⟨p, c, rfl, H⟩ := hv.form
  obtain ⟨g, o, rfl, q0⟩ := H 0 b hl
  have hpos : 0 < l.length := first_pos hl
  have e3 : ((l.length : Int) == 0) = false := by rw [beq_eq_false_iff_ne]; omega
  have hin : (0 : Int) ≤ 0 ∧ (0 : Int) < (l.length : Int) := by omega
  have e4 : decide (r < 0) = false := decide_eq_false (by omega)
  have HL := Lib.hid hL
  rw [Nat.add_zero] at q0
  have HQ := Lib.hid q0
  obtain ⟨g', o', e, q1⟩ := H 1 n1 hn1
  cases e
  have hin1 : (0 : Int) ≤ 1 ∧ (1 : Int) < (l.length : Int) := by have := first_pos hn1; omega
  have HQ1 := Lib.hid q1
  subst hk
  have e5 : decide ((l.length : Int) < 2) = false := decide_eq_false (by omega)
  have w1 : IntKind.i64.wrap (a + 2) = a + 2 := IntWalk.i64_in _ (by omega)
  have w2 : IntKind.i64.wrap n1 = n1 := IntWalk.i64_in _ (by omega)
  have w3 : IntKind.i64.wrap (n1 - 256) = n1 - 256 := IntWalk.i64_in _ (by omega)
  have e9 : decide (127 < n1) = true := decide_eq_true (by omega)
  have w4 : IntKind.i64.wrap (a + 2 + (n1 - 256)) = a + 2 + (n1 - 256) := IntWalk.i64_in _ (by omega)
  have e6 : decide (65536 < a + 2) = false := decide_eq_false (by omega)
  have e7 : decide ((a + 2 + (n1 - 256)) < 0) = false := decide_eq_false (by omega)
  have e8 : decide (65535 < (a + 2 + (n1 - 256))) = false := decide_eq_false (by omega)
  clear h1 h2 hF hL hl H hb hv q0 hr ha q1 hn1 hb1 hc
  go_enter Tryd.func19, Tryd.ntmps19
  have q1 := old_cell HQ.out
  go_wp2_with fail
  ((with_reducible refine (HF.out _).mono ?_); rintro _ u ⟨rfl, hb⟩)
  have T : u.cell? ⟨w.heap.size, 0, none⟩ = some (.int .i64 0) ∧ u.frozen? ⟨w.heap.size, 0, none⟩ = false ∧ u.cell? ⟨w.heap.size, 1, none⟩ = some (.int .i64 0) ∧ u.frozen? ⟨w.heap.size, 1, none⟩ = false := by
      refine ⟨?_, ?_, ?_, ?_⟩ <;> first | (refine kc hb ?_ <;> (go_simp; first | done | rfl)) | (refine kfz hb ?_ ?_ <;> first | (go_size; done) | (go_simp; done))
  have hz := hb.size
  (try simp only [World.size_alloc, World.size_setCell, World.size_drew] at hz)
  have hlx' : w.heap.size < u.heap.size := by omega
  have hB' : Below w.heap.size w u := by
      refine kb ?_ hb
      go_grown
  clear hb hz
  obtain ⟨hx_0, fx_0, hx_1, fx_1⟩ := T
  have hlx := hlx'; clear hlx'
  have hnx0 : ¬ (w.heap.size = u.heap.size) := by omega
  have hnx1 : ¬ (w.heap.size = u.heap.size + 1) := by omega
  have hkx1 : w.heap.size < u.heap.size + 1 := by omega
  have hnx2 : ¬ (w.heap.size = u.heap.size + 1 + 1) := by omega
  have hkx2 : w.heap.size < u.heap.size + 1 + 1 := by omega
  have hB := hB'; clear hB'
  have hsz := hB.size
  go_wp2_with fail
  ((with_reducible refine (HL.out _).mono ?_); rintro _ u2 ⟨rfl, hb⟩)
  have T : u2.cell? ⟨w.heap.size, 0, none⟩ = some (.int .i64 0) ∧ u2.frozen? ⟨w.heap.size, 0, none⟩ = false ∧ u2.cell? ⟨w.heap.size, 1, none⟩ = some (.int .i64 0) ∧ u2.frozen? ⟨w.heap.size, 1, none⟩ = false := by
      refine ⟨?_, ?_, ?_, ?_⟩ <;> first | (refine kc hb ?_ <;> (go_simp; first | done | rfl)) | (refine kfz hb ?_ ?_ <;> first | (go_size; done) | (go_simp; done))
  have hz := hb.size
  (try simp only [World.size_alloc, World.size_setCell, World.size_drew] at hz)
  have hlx' : w.heap.size < u2.heap.size := by omega
  have hB' : Below w.heap.size w u2 := by
      refine kb ?_ hb
      go_grown
  clear hx_0 fx_0 hx_1 fx_1 hlx hnx0 hnx1 hkx1 hnx2 hkx2 hB hsz
  clear hb hz
  obtain ⟨hx_0, fx_0, hx_1, fx_1⟩ := T
  have hlx := hlx'; clear hlx'
  have hnx0 : ¬ (w.heap.size = u2.heap.size) := by omega
  have hnx1 : ¬ (w.heap.size = u2.heap.size + 1) := by omega
  have hkx1 : w.heap.size < u2.heap.size + 1 := by omega
  have hnx2 : ¬ (w.heap.size = u2.heap.size + 1 + 1) := by omega
  have hkx2 : w.heap.size < u2.heap.size + 1 + 1 := by omega
  have hB := hB'; clear hB'
  have hsz := hB.size
  have q2 := kc hB HQ.out
  have q3 := old_cell q2
  have p1 := kc hB HQ1.out
  have r1 := old_cell p1
  clear p1
  go_wp2
  obtain ⟨s0, s1, s2⟩ := two_cells hx_0 hx_1
  refine bodyPost_ret (v := .tuple #[.agg #[.int .i64 b, .int .i64 (a + 2 + (n1 - 256))], .int .i64 2, .int .i64 0]) (by simp [results, Tryd.results19, go_sem, s0, s1, s2, old_cell (s0 _ _), old_cell (s1 _ _)]) rfl ⟨rfl, by go_grown⟩
set_option maxRecDepth 100000 in
set_option maxHeartbeats 1000000 in
theorem read_rel_low_far (l : List Int) (b : Nat) (hl : l[0]? = some (b : Int)) (hb : b < 256) (n1 : Int) (hn1 : l[1]? = some n1) (hb1 : 0 ≤ n1 ∧ n1 < 256) (v : Value) (a r k : Int) (hr : 0 ≤ r) (h1 : 0 ≤ a) (h2 : a ≤ 65535)
    (hF : ∀ w, Calls Tryd.prog 28 #[.int .i64 b] w fun e w' => e = .returned (.tuple #[.int .i64 r, .int .i64 k]) ∧ Below w.heap.size w w')
    (hL : ∀ w, Calls Tryd.prog 40 #[.int .i64 k] w fun e w' => e = .returned (.int .i64 2) ∧ Below w.heap.size w w') (hk : k = 12) (ha : 65536 < a + 2) (hc : n1 ≤ 127) (w : World) (hv : Holds w v l) :
    Calls Tryd.prog 19 #[v, .int .i64 a] w (ReadEnd w 0 0 0 10) := by
  have e1 : decide (a < 0) = false := decide_eq_false (by omega)
  have e2 : decide (65535 < a) = false := decide_eq_false (by omega)
  have wb : IntKind.i64.wrap (b : Int) = b := IntWalk.i64_in _ (by omega)
  have HF := Lib.hid hF
  obtain ⟨p, c, rfl, H⟩ := hv.form
  obtain ⟨g, o, rfl, q0⟩ := H 0 b hl
  have hpos : 0 < l.length := first_pos hl
  have e3 : ((l.length : Int) == 0) = false := by rw [beq_eq_false_iff_ne]; omega
  have hin : (0 : Int) ≤ 0 ∧ (0 : Int) < (l.length : Int) := by omega
  have e4 : decide (r < 0) = false := decide_eq_false (by omega)
  have HL := Lib.hid hL
  rw [Nat.add_zero] at q0
  have HQ := Lib.hid q0
  obtain ⟨g', o', e, q1⟩ := H 1 n1 hn1
  cases e
  have hin1 : (0 : Int) ≤ 1 ∧ (1 : Int) < (l.length : Int) := by have := first_pos hn1; omega
  have HQ1 := Lib.hid q1
  subst hk
  have e5 : decide ((l.length : Int) < 2) = false := decide_eq_false (by omega)
  have w1 : IntKind.i64.wrap (a + 2) = a + 2 := IntWalk.i64_in _ (by omega)
  have w2 : IntKind.i64.wrap n1 = n1 := IntWalk.i64_in _ (by omega)
  have w3 : IntKind.i64.wrap (a + 2 + n1) = a + 2 + n1 := IntWalk.i64_in _ (by omega)
  have e9 : decide (127 < n1) = false := decide_eq_false (by omega)
  have e6 : decide (65536 < a + 2) = true := decide_eq_true (by omega)
  clear h1 h2 hF hL hl H hb hv q0 hr ha q1 hn1 hb1 hc
  go_enter Tryd.func19, Tryd.ntmps19
  have q1 := old_cell HQ.out
  go_wp2_with fail
  ((with_reducible refine (HF.out _).mono ?_); rintro _ u ⟨rfl, hb⟩)
  have T : u.cell? ⟨w.heap.size, 0, none⟩ = some (.int .i64 0) ∧ u.frozen? ⟨w.heap.size, 0, none⟩ = false ∧ u.cell? ⟨w.heap.size, 1, none⟩ = some (.int .i64 0) ∧ u.frozen? ⟨w.heap.size, 1, none⟩ = false := by
      refine ⟨?_, ?_, ?_, ?_⟩ <;> first | (refine kc hb ?_ <;> (go_simp; first | done | rfl)) | (refine kfz hb ?_ ?_ <;> first | (go_size; done) | (go_simp; done))
  have hz := hb.size
  (try simp only [World.size_alloc, World.size_setCell, World.size_drew] at hz)
  have hlx' : w.heap.size < u.heap.size := by omega
  have hB' : Below w.heap.size w u := by
      refine kb ?_ hb
      go_grown
  clear hb hz
  obtain ⟨hx_0, fx_0, hx_1, fx_1⟩ := T
  have hlx := hlx'; clear hlx'
  have hnx0 : ¬ (w.heap.size = u.heap.size) := by omega
  have hnx1 : ¬ (w.heap.size = u.heap.size + 1) := by omega
  have hkx1 : w.heap.size < u.heap.size + 1 := by omega
  have hnx2 : ¬ (w.heap.size = u.heap.size + 1 + 1) := by omega
  have hkx2 : w.heap.size < u.heap.size + 1 + 1 := by omega
  have hB := hB'; clear hB'
  have hsz := hB.size
  go_wp2_with fail
  ((with_reducible refine (HL.out _).mono ?_); rintro _ u2 ⟨rfl, hb⟩)
  have T : u2.cell? ⟨w.heap.size, 0, none⟩ = some (.int .i64 0) ∧ u2.frozen? ⟨w.heap.size, 0, none⟩ = false ∧ u2.cell? ⟨w.heap.size, 1, none⟩ = some (.int .i64 0) ∧ u2.frozen? ⟨w.heap.size, 1, none⟩ = false := by
      refine ⟨?_, ?_, ?_, ?_⟩ <;> first | (refine kc hb ?_ <;> (go_simp; first | done | rfl)) | (refine kfz hb ?_ ?_ <;> first | (go_size; done) | (go_simp; done))
  have hz := hb.size
  (try simp only [World.size_alloc, World.size_setCell, World.size_drew] at hz)
  have hlx' : w.heap.size < u2.heap.size := by omega
  have hB' : Below w.heap.size w u2 := by
      refine kb ?_ hb
      go_grown
  clear hx_0 fx_0 hx_1 fx_1 hlx hnx0 hnx1 hkx1 hnx2 hkx2 hB hsz
  clear hb hz
  obtain ⟨hx_0, fx_0, hx_1, fx_1⟩ := T
  have hlx := hlx'; clear hlx'
  have hnx0 : ¬ (w.heap.size = u2.heap.size) := by omega
  have hnx1 : ¬ (w.heap.size = u2.heap.size + 1) := by omega
  have hkx1 : w.heap.size < u2.heap.size + 1 := by omega
  have hnx2 : ¬ (w.heap.size = u2.heap.size + 1 + 1) := by omega
  have hkx2 : w.heap.size < u2.heap.size + 1 + 1 := by omega
  have hB := hB'; clear hB'
  have hsz := hB.size
  have q2 := kc hB HQ.out
  have q3 := old_cell q2
  have p1 := kc hB HQ1.out
  have r1 := old_cell p1
  clear p1
  go_wp2
  obtain ⟨s0, s1, s2⟩ := two_cells hx_0 hx_1
  refine bodyPost_ret (v := .tuple #[.agg #[.int .i64 0, .int .i64 0], .int .i64 0, .int .i64 10]) (by simp [results, Tryd.results19, go_sem, s0, s1, s2, old_cell (s0 _ _), old_cell (s1 _ _)]) rfl ⟨rfl, by go_grown⟩
set_option maxRecDepth 100000 in
set_option maxHeartbeats 1000000 in
theorem read_rel_low_over (l : List Int) (b : Nat) (hl : l[0]? = some (b : Int)) (hb : b < 256) (n1 : Int) (hn1 : l[1]? = some n1) (hb1 : 0 ≤ n1 ∧ n1 < 256) (v : Value) (a r k : Int) (hr : 0 ≤ r) (h1 : 0 ≤ a) (h2 : a ≤ 65535)
    (hF : ∀ w, Calls Tryd.prog 28 #[.int .i64 b] w fun e w' => e = .returned (.tuple #[.int .i64 r, .int .i64 k]) ∧ Below w.heap.size w w')
    (hL : ∀ w, Calls Tryd.prog 40 #[.int .i64 k] w fun e w' => e = .returned (.int .i64 2) ∧ Below w.heap.size w w') (hk : k = 12) (ha : a + 2 ≤ 65536 ∧ 65535 < a + 2 + n1) (hc : n1 ≤ 127) (w : World) (hv : Holds w v l) :
    Calls Tryd.prog 19 #[v, .int .i64 a] w (ReadEnd w 0 0 0 10) := by
  have e1 : decide (a < 0) = false := decide_eq_false (by omega)
  have e2 : decide (65535 < a) = false := decide_eq_false (by omega)
  have wb : IntKind.i64.wrap (b : Int) = b := IntWalk.i64_in _ (by omega)
  have HF := Lib.hid hF
  obtain ⟨p, c, rfl, H⟩ := hv.form
  obtain ⟨g, o, rfl, q0⟩ := H 0 b hl
  have hpos : 0 < l.length := first_pos hl
  have e3 : ((l.length : Int) == 0) = false := by rw [beq_eq_false_iff_ne]; omega
  have hin : (0 : Int) ≤ 0 ∧ (0 : Int) < (l.length : Int) := by omega
  have e4 : decide (r < 0) = false := decide_eq_false (by omega)
  have HL := Lib.hid hL
  rw [Nat.add_zero] at q0
  have HQ := Lib.hid q0
  obtain ⟨g', o', e, q1⟩ := H 1 n1 hn1
  cases e
  have hin1 : (0 : Int) ≤ 1 ∧ (1 : Int) < (l.length : Int) := by have := first_pos hn1; omega
  have HQ1 := Lib.hid q1
  subst hk
  have e5 : decide ((l.length : Int) < 2) = false := decide_eq_false (by omega)
  have w1 : IntKind.i64.wrap (a + 2) = a + 2 := IntWalk.i64_in _ (by omega)
  have w2 : IntKind.i64.wrap n1 = n1 := IntWalk.i64_in _ (by omega)
  have w3 : IntKind.i64.wrap (a + 2 + n1) = a + 2 + n1 := IntWalk.i64_in _ (by omega)
  have e9 : decide (127 < n1) = false := decide_eq_false (by omega)
  have e6 : decide (65536 < a + 2) = false := decide_eq_false (by omega)
  have e7 : decide ((a + 2 + n1) < 0) = false := decide_eq_false (by omega)
  have e8 : decide (65535 < (a + 2 + n1)) = true := decide_eq_true (by omega)
  clear h1 h2 hF hL hl H hb hv q0 hr ha q1 hn1 hb1 hc
  go_enter Tryd.func19, Tryd.ntmps19
  have q1 := old_cell HQ.out
  go_wp2_with fail
  ((with_reducible refine (HF.out _).mono ?_); rintro _ u ⟨rfl, hb⟩)
  have T : u.cell? ⟨w.heap.size, 0, none⟩ = some (.int .i64 0) ∧ u.frozen? ⟨w.heap.size, 0, none⟩ = false ∧ u.cell? ⟨w.heap.size, 1, none⟩ = some (.int .i64 0) ∧ u.frozen? ⟨w.heap.size, 1, none⟩ = false := by
      refine ⟨?_, ?_, ?_, ?_⟩ <;> first | (refine kc hb ?_ <;> (go_simp; first | done | rfl)) | (refine kfz hb ?_ ?_ <;> first | (go_size; done) | (go_simp; done))
  have hz := hb.size
  (try simp only [World.size_alloc, World.size_setCell, World.size_drew] at hz)
  have hlx' : w.heap.size < u.heap.size := by omega
  have hB' : Below w.heap.size w u := by
      refine kb ?_ hb
      go_grown
  clear hb hz
  obtain ⟨hx_0, fx_0, hx_1, fx_1⟩ := T
  have hlx := hlx'; clear hlx'
  have hnx0 : ¬ (w.heap.size = u.heap.size) := by omega
  have hnx1 : ¬ (w.heap.size = u.heap.size + 1) := by omega
  have hkx1 : w.heap.size < u.heap.size + 1 := by omega
  have hnx2 : ¬ (w.heap.size = u.heap.size + 1 + 1) := by omega
  have hkx2 : w.heap.size < u.heap.size + 1 + 1 := by omega
  have hB := hB'; clear hB'
  have hsz := hB.size
  go_wp2_with fail
  ((with_reducible refine (HL.out _).mono ?_); rintro _ u2 ⟨rfl, hb⟩)
  have T : u2.cell? ⟨w.heap.size, 0, none⟩ = some (.int .i64 0) ∧ u2.frozen? ⟨w.heap.size, 0, none⟩ = false ∧ u2.cell? ⟨w.heap.size, 1, none⟩ = some (.int .i64 0) ∧ u2.frozen? ⟨w.heap.size, 1, none⟩ = false := by
      refine ⟨?_, ?_, ?_, ?_⟩ <;> first | (refine kc hb ?_ <;> (go_simp; first | done | rfl)) | (refine kfz hb ?_ ?_ <;> first | (go_size; done) | (go_simp; done))
  have hz := hb.size
  (try simp only [World.size_alloc, World.size_setCell, World.size_drew] at hz)
  have hlx' : w.heap.size < u2.heap.size := by omega
  have hB' : Below w.heap.size w u2 := by
      refine kb ?_ hb
      go_grown
  clear hx_0 fx_0 hx_1 fx_1 hlx hnx0 hnx1 hkx1 hnx2 hkx2 hB hsz
  clear hb hz
  obtain ⟨hx_0, fx_0, hx_1, fx_1⟩ := T
  have hlx := hlx'; clear hlx'
  have hnx0 : ¬ (w.heap.size = u2.heap.size) := by omega
  have hnx1 : ¬ (w.heap.size = u2.heap.size + 1) := by omega
  have hkx1 : w.heap.size < u2.heap.size + 1 := by omega
  have hnx2 : ¬ (w.heap.size = u2.heap.size + 1 + 1) := by omega
  have hkx2 : w.heap.size < u2.heap.size + 1 + 1 := by omega
  have hB := hB'; clear hB'
  have hsz := hB.size
  have q2 := kc hB HQ.out
  have q3 := old_cell q2
  have p1 := kc hB HQ1.out
  have r1 := old_cell p1
  clear p1
  go_wp2
  obtain ⟨s0, s1, s2⟩ := two_cells hx_0 hx_1
  refine bodyPost_ret (v := .tuple #[.agg #[.int .i64 0, .int .i64 0], .int .i64 0, .int .i64 10]) (by simp [results, Tryd.results19, go_sem, s0, s1, s2, old_cell (s0 _ _), old_cell (s1 _ _)]) rfl ⟨rfl, by go_grown⟩
set_option maxRecDepth 100000 in
set_option maxHeartbeats 1000000 in
theorem read_rel_high_far (l : List Int) (b : Nat) (hl : l[0]? = some (b : Int)) (hb : b < 256) (n1 : Int) (hn1 : l[1]? = some n1) (hb1 : 0 ≤ n1 ∧ n1 < 256) (v : Value) (a r k : Int) (hr : 0 ≤ r) (h1 : 0 ≤ a) (h2 : a ≤ 65535)
    (hF : ∀ w, Calls Tryd.prog 28 #[.int .i64 b] w fun e w' => e = .returned (.tuple #[.int .i64 r, .int .i64 k]) ∧ Below w.heap.size w w')
    (hL : ∀ w, Calls Tryd.prog 40 #[.int .i64 k] w fun e w' => e = .returned (.int .i64 2) ∧ Below w.heap.size w w') (hk : k = 12) (ha : 65536 < a + 2) (hc : 127 < n1) (w : World) (hv : Holds w v l) :
    Calls Tryd.prog 19 #[v, .int .i64 a] w (ReadEnd w 0 0 0 10) := by
  have e1 : decide (a < 0) = false := decide_eq_false (by omega)
  have e2 : decide (65535 < a) = false := decide_eq_false (by omega)
  have wb : IntKind.i64.wrap (b : Int) = b := IntWalk.i64_in _ (by omega)
  have HF := Lib.hid hF
  obtain ⟨p, c, rfl, H⟩ := hv.form
  obtain ⟨g, o, rfl, q0⟩ := H 0 b hl
  have hpos : 0 < l.length := first_pos hl
  have e3 : ((l.length : Int) == 0) = false := by rw [beq_eq_false_iff_ne]; omega
  have hin : (0 : Int) ≤ 0 ∧ (0 : Int) < (l.length : Int) := by omega
  have e4 : decide (r < 0) = false := decide_eq_false (by omega)
  have HL := Lib.hid hL
  rw [Nat.add_zero] at q0
  have HQ := Lib.hid q0
  obtain ⟨g', o', e, q1⟩ := H 1 n1 hn1
  cases e
  have hin1 : (0 : Int) ≤ 1 ∧ (1 : Int) < (l.length : Int) := by have := first_pos hn1; omega
  have HQ1 := Lib.hid q1
  subst hk
  have e5 : decide ((l.length : Int) < 2) = false := decide_eq_false (by omega)
  have w1 : IntKind.i64.wrap (a + 2) = a + 2 := IntWalk.i64_in _ (by omega)
  have w2 : IntKind.i64.wrap n1 = n1 := IntWalk.i64_in _ (by omega)
  have w3 : IntKind.i64.wrap (n1 - 256) = n1 - 256 := IntWalk.i64_in _ (by omega)
  have e9 : decide (127 < n1) = true := decide_eq_true (by omega)
  have w4 : IntKind.i64.wrap (a + 2 + (n1 - 256)) = a + 2 + (n1 - 256) := IntWalk.i64_in _ (by omega)
  have e6 : decide (65536 < a + 2) = true := decide_eq_true (by omega)
  clear h1 h2 hF hL hl H hb hv q0 hr ha q1 hn1 hb1 hc
  go_enter Tryd.func19, Tryd.ntmps19
  have q1 := old_cell HQ.out
  go_wp2_with fail
  ((with_reducible refine (HF.out _).mono ?_); rintro _ u ⟨rfl, hb⟩)
  have T : u.cell? ⟨w.heap.size, 0, none⟩ = some (.int .i64 0) ∧ u.frozen? ⟨w.heap.size, 0, none⟩ = false ∧ u.cell? ⟨w.heap.size, 1, none⟩ = some (.int .i64 0) ∧ u.frozen? ⟨w.heap.size, 1, none⟩ = false := by
      refine ⟨?_, ?_, ?_, ?_⟩ <;> first | (refine kc hb ?_ <;> (go_simp; first | done | rfl)) | (refine kfz hb ?_ ?_ <;> first | (go_size; done) | (go_simp; done))
  have hz := hb.size
  (try simp only [World.size_alloc, World.size_setCell, World.size_drew] at hz)
  have hlx' : w.heap.size < u.heap.size := by omega
  have hB' : Below w.heap.size w u := by
      refine kb ?_ hb
      go_grown
  clear hb hz
  obtain ⟨hx_0, fx_0, hx_1, fx_1⟩ := T
  have hlx := hlx'; clear hlx'
  have hnx0 : ¬ (w.heap.size = u.heap.size) := by omega
  have hnx1 : ¬ (w.heap.size = u.heap.size + 1) := by omega
  have hkx1 : w.heap.size < u.heap.size + 1 := by omega
  have hnx2 : ¬ (w.heap.size = u.heap.size + 1 + 1) := by omega
  have hkx2 : w.heap.size < u.heap.size + 1 + 1 := by omega
  have hB := hB'; clear hB'
  have hsz := hB.size
  go_wp2_with fail
  ((with_reducible refine (HL.out _).mono ?_); rintro _ u2 ⟨rfl, hb⟩)
  have T : u2.cell? ⟨w.heap.size, 0, none⟩ = some (.int .i64 0) ∧ u2.frozen? ⟨w.heap.size, 0, none⟩ = false ∧ u2.cell? ⟨w.heap.size, 1, none⟩ = some (.int .i64 0) ∧ u2.frozen? ⟨w.heap.size, 1, none⟩ = false := by
      refine ⟨?_, ?_, ?_, ?_⟩ <;> first | (refine kc hb ?_ <;> (go_simp; first | done | rfl)) | (refine kfz hb ?_ ?_ <;> first | (go_size; done) | (go_simp; done))
  have hz := hb.size
  (try simp only [World.size_alloc, World.size_setCell, World.size_drew] at hz)
  have hlx' : w.heap.size < u2.heap.size := by omega
  have hB' : Below w.heap.size w u2 := by
      refine kb ?_ hb
      go_grown
  clear hx_0 fx_0 hx_1 fx_1 hlx hnx0 hnx1 hkx1 hnx2 hkx2 hB hsz
  clear hb hz
  obtain ⟨hx_0, fx_0, hx_1, fx_1⟩ := T
  have hlx := hlx'; clear hlx'
  have hnx0 : ¬ (w.heap.size = u2.heap.size) := by omega
  have hnx1 : ¬ (w.heap.size = u2.heap.size + 1) := by omega
  have hkx1 : w.heap.size < u2.heap.size + 1 := by omega
  have hnx2 : ¬ (w.heap.size = u2.heap.size + 1 + 1) := by omega
  have hkx2 : w.heap.size < u2.heap.size + 1 + 1 := by omega
  have hB := hB'; clear hB'
  have hsz := hB.size
  have q2 := kc hB HQ.out
  have q3 := old_cell q2
  have p1 := kc hB HQ1.out
  have r1 := old_cell p1
  clear p1
  go_wp2
  obtain ⟨s0, s1, s2⟩ := two_cells hx_0 hx_1
  refine bodyPost_ret (v := .tuple #[.agg #[.int .i64 0, .int .i64 0], .int .i64 0, .int .i64 10]) (by simp [results, Tryd.results19, go_sem, s0, s1, s2, old_cell (s0 _ _), old_cell (s1 _ _)]) rfl ⟨rfl, by go_grown⟩
set_option maxRecDepth 100000 in
set_option maxHeartbeats 1000000 in
theorem read_rel_high_under (l : List Int) (b : Nat) (hl : l[0]? = some (b : Int)) (hb : b < 256) (n1 : Int) (hn1 : l[1]? = some n1) (hb1 : 0 ≤ n1 ∧ n1 < 256) (v : Value) (a r k : Int) (hr : 0 ≤ r) (h1 : 0 ≤ a) (h2 : a ≤ 65535)
    (hF : ∀ w, Calls Tryd.prog 28 #[.int .i64 b] w fun e w' => e = .returned (.tuple #[.int .i64 r, .int .i64 k]) ∧ Below w.heap.size w w')
    (hL : ∀ w, Calls Tryd.prog 40 #[.int .i64 k] w fun e w' => e = .returned (.int .i64 2) ∧ Below w.heap.size w w') (hk : k = 12) (ha : a + 2 ≤ 65536 ∧ a + 2 + (n1 - 256) < 0) (hc : 127 < n1) (w : World) (hv : Holds w v l) :
    Calls Tryd.prog 19 #[v, .int .i64 a] w (ReadEnd w 0 0 0 10) := by
  have e1 : decide (a < 0) = false := decide_eq_false (by omega)
  have e2 : decide (65535 < a) = false := decide_eq_false (by omega)
  have wb : IntKind.i64.wrap (b : Int) = b := IntWalk.i64_in _ (by omega)
  have HF := Lib.hid hF
  obtain ⟨p, c, rfl, H⟩ := hv.form
  obtain ⟨g, o, rfl, q0⟩ := H 0 b hl
  have hpos : 0 < l.length := first_pos hl
  have e3 : ((l.length : Int) == 0) = false := by rw [beq_eq_false_iff_ne]; omega
  have hin : (0 : Int) ≤ 0 ∧ (0 : Int) < (l.length : Int) := by omega
  have e4 : decide (r < 0) = false := decide_eq_false (by omega)
  have HL := Lib.hid hL
  rw [Nat.add_zero] at q0
  have HQ := Lib.hid q0
  obtain ⟨g', o', e, q1⟩ := H 1 n1 hn1
  cases e
  have hin1 : (0 : Int) ≤ 1 ∧ (1 : Int) < (l.length : Int) := by have := first_pos hn1; omega
  have HQ1 := Lib.hid q1
  subst hk
  have e5 : decide ((l.length : Int) < 2) = false := decide_eq_false (by omega)
  have w1 : IntKind.i64.wrap (a + 2) = a + 2 := IntWalk.i64_in _ (by omega)
  have w2 : IntKind.i64.wrap n1 = n1 := IntWalk.i64_in _ (by omega)
  have w3 : IntKind.i64.wrap (n1 - 256) = n1 - 256 := IntWalk.i64_in _ (by omega)
  have e9 : decide (127 < n1) = true := decide_eq_true (by omega)
  have w4 : IntKind.i64.wrap (a + 2 + (n1 - 256)) = a + 2 + (n1 - 256) := IntWalk.i64_in _ (by omega)
  have e6 : decide (65536 < a + 2) = false := decide_eq_false (by omega)
  have e7 : decide ((a + 2 + (n1 - 256)) < 0) = true := decide_eq_true (by omega)
  clear h1 h2 hF hL hl H hb hv q0 hr ha q1 hn1 hb1 hc
  go_enter Tryd.func19, Tryd.ntmps19
  have q1 := old_cell HQ.out
  go_wp2_with fail
  ((with_reducible refine (HF.out _).mono ?_); rintro _ u ⟨rfl, hb⟩)
  have T : u.cell? ⟨w.heap.size, 0, none⟩ = some (.int .i64 0) ∧ u.frozen? ⟨w.heap.size, 0, none⟩ = false ∧ u.cell? ⟨w.heap.size, 1, none⟩ = some (.int .i64 0) ∧ u.frozen? ⟨w.heap.size, 1, none⟩ = false := by
      refine ⟨?_, ?_, ?_, ?_⟩ <;> first | (refine kc hb ?_ <;> (go_simp; first | done | rfl)) | (refine kfz hb ?_ ?_ <;> first | (go_size; done) | (go_simp; done))
  have hz := hb.size
  (try simp only [World.size_alloc, World.size_setCell, World.size_drew] at hz)
  have hlx' : w.heap.size < u.heap.size := by omega
  have hB' : Below w.heap.size w u := by
      refine kb ?_ hb
      go_grown
  clear hb hz
  obtain ⟨hx_0, fx_0, hx_1, fx_1⟩ := T
  have hlx := hlx'; clear hlx'
  have hnx0 : ¬ (w.heap.size = u.heap.size) := by omega
  have hnx1 : ¬ (w.heap.size = u.heap.size + 1) := by omega
  have hkx1 : w.heap.size < u.heap.size + 1 := by omega
  have hnx2 : ¬ (w.heap.size = u.heap.size + 1 + 1) := by omega
  have hkx2 : w.heap.size < u.heap.size + 1 + 1 := by omega
  have hB := hB'; clear hB'
  have hsz := hB.size
  go_wp2_with fail
  ((with_reducible refine (HL.out _).mono ?_); rintro _ u2 ⟨rfl, hb⟩)
  have T : u2.cell? ⟨w.heap.size, 0, none⟩ = some (.int .i64 0) ∧ u2.frozen? ⟨w.heap.size, 0, none⟩ = false ∧ u2.cell? ⟨w.heap.size, 1, none⟩ = some (.int .i64 0) ∧ u2.frozen? ⟨w.heap.size, 1, none⟩ = false := by
      refine ⟨?_, ?_, ?_, ?_⟩ <;> first | (refine kc hb ?_ <;> (go_simp; first | done | rfl)) | (refine kfz hb ?_ ?_ <;> first | (go_size; done) | (go_simp; done))
  have hz := hb.size
  (try simp only [World.size_alloc, World.size_setCell, World.size_drew] at hz)
  have hlx' : w.heap.size < u2.heap.size := by omega
  have hB' : Below w.heap.size w u2 := by
      refine kb ?_ hb
      go_grown
  clear hx_0 fx_0 hx_1 fx_1 hlx hnx0 hnx1 hkx1 hnx2 hkx2 hB hsz
  clear hb hz
  obtain ⟨hx_0, fx_0, hx_1, fx_1⟩ := T
  have hlx := hlx'; clear hlx'
  have hnx0 : ¬ (w.heap.size = u2.heap.size) := by omega
  have hnx1 : ¬ (w.heap.size = u2.heap.size + 1) := by omega
  have hkx1 : w.heap.size < u2.heap.size + 1 := by omega
  have hnx2 : ¬ (w.heap.size = u2.heap.size + 1 + 1) := by omega
  have hkx2 : w.heap.size < u2.heap.size + 1 + 1 := by omega
  have hB := hB'; clear hB'
  have hsz := hB.size
  have q2 := kc hB HQ.out
  have q3 := old_cell q2
  have p1 := kc hB HQ1.out
  have r1 := old_cell p1
  clear p1
  go_wp2
  obtain ⟨s0, s1, s2⟩ := two_cells hx_0 hx_1
  refine bodyPost_ret (v := .tuple #[.agg #[.int .i64 0, .int .i64 0], .int .i64 0, .int .i64 10]) (by simp [results, Tryd.results19, go_sem, s0, s1, s2, old_cell (s0 _ _), old_cell (s1 _ _)]) rfl ⟨rfl, by go_grown⟩
end Go.Proofs.YtpjpoopgafcedaaDoor
