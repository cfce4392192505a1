/-
  The document's timer: May, IRQ, Read, Write, Tick; a timer as its own.
  The document's timer: Write; the law's Plain.
  The program's timer where it lies: six cells of a block; what a store makes of it, all else being as it was.
-/
import Derived.Test.YtcnejgilmciljaaGreatDoorBase
import Derived.Test.YtcnejgilmciljaaGreatDoorTm10
import Derived.Test.YtcnejgilmciljaaGreatDoorGrown
import Derived.Laws.Tables
set_option linter.unusedSimpArgs false
set_option linter.unusedVariables false
namespace Go.Proofs.YtcnejgilmciljaaGreatDoor
open Go.RowKit Go.PlainAid

set_option maxRecDepth 100000 in
theorem mayd_c (x : Tm) (w : World) : Calls Tryz.prog 10 #[.agg #[.int .i64 x.l, .int .i64 x.c, .bool x.r, .bool x.a, .bool x.s, .bool x.g]] w fun e w' => e = .returned (.bool (mayT x)) ∧ Below w.heap.size w w' := by
  obtain ⟨l, c, r, a, s, g⟩ := x
  unfold mayT
  dsimp only
  by_cases h1 : 0 ≤ l
  case neg =>
    have e : decide (0 ≤ l) = false := by simpa using h1
    rw [e, Bool.false_and, Bool.false_and, Bool.false_and]
    go_enter Tryz.func10, Tryz.ntmps10
    go_wp2
    go_ret
    exact ⟨rfl, by go_grown⟩
  by_cases h2 : l < 65536
  case neg =>
    have e : decide (l < 65536) = false := by simpa using h2
    rw [e, Bool.and_false, Bool.false_and, Bool.false_and]
    go_enter Tryz.func10, Tryz.ntmps10
    go_wp2
    go_ret
    exact ⟨rfl, by go_grown⟩
  by_cases h3 : 0 ≤ c
  case neg =>
    have e : decide (0 ≤ c) = false := by simpa using h3
    rw [e, Bool.and_false, Bool.false_and]
    go_enter Tryz.func10, Tryz.ntmps10
    go_wp2
    go_ret
    exact ⟨rfl, by go_grown⟩
  rw [show decide (0 ≤ l) = true by simpa using h1, show decide (l < 65536) = true by simpa using h2, show decide (0 ≤ c) = true by simpa using h3, Bool.true_and, Bool.true_and, Bool.true_and]
  go_enter Tryz.func10, Tryz.ntmps10
  go_wp2
  all_goals
    go_ret
    exact ⟨by simp [*], by go_grown⟩
set_option maxRecDepth 100000 in
theorem irqd_c (x : Tm) (w : World) : Calls Tryz.prog 55 #[.agg #[.int .i64 x.l, .int .i64 x.c, .bool x.r, .bool x.a, .bool x.s, .bool x.g]] w fun e w' => e = .returned (.bool (x.g && x.s)) ∧ Below w.heap.size w w' := by
  obtain ⟨l, c, r, a, s, g⟩ := x
  dsimp only
  cases g
  all_goals
    go_enter Tryz.func55, Tryz.ntmps55
    go_wp2
    go_ret
    exact ⟨rfl, by go_grown⟩
set_option maxRecDepth 100000 in
theorem readd_c (x : Tm) (reg : Int) (hm : x.May) (w : World) : Calls Tryz.prog 49 #[.agg #[.int .i64 x.l, .int .i64 x.c, .bool x.r, .bool x.a, .bool x.s, .bool x.g], .int .i64 reg] w fun e w' => e = .returned (.int .i64 (readT x reg)) ∧ Below w.heap.size w w' := by
  obtain ⟨l, c, r, a, s, g⟩ := x
  obtain ⟨h1, h2⟩ := hm
  dsimp only at h1 h2 ⊢
  rcases reg_cases reg with rfl | rfl | rfl | rfl | ⟨n0, n1, n2, n3⟩
  · go_enter Tryz.func49, Tryz.ntmps49
    go_wp2
    go_ret
    exact ⟨by first | rfl | (simp [readT]; done), by go_grown⟩
  · go_enter Tryz.func49, Tryz.ntmps49
    go_wp2
    go_ret
    exact ⟨by first | rfl | (simp [readT]; done), by go_grown⟩
  · cases r <;> cases a <;> cases s
    all_goals
      go_enter Tryz.func49, Tryz.ntmps49
      go_wp2
      go_ret
      exact ⟨by first | rfl | (simp [readT]; done), by go_grown⟩
  · cases g
    all_goals
      go_enter Tryz.func49, Tryz.ntmps49
      go_wp2
      go_ret
      exact ⟨by first | rfl | (simp [readT]; done), by go_grown⟩
  · have e : readT ⟨l, c, r, a, s, g⟩ reg = 0 := by unfold readT; rw [if_neg n0, if_neg n1, if_neg n2, if_neg n3]
    rw [e]
    have d0 : (reg == 0) = false := by simpa using n0
    have d1 : (reg == 1) = false := by simpa using n1
    have d2 : (reg == 2) = false := by simpa using n2
    have d3 : (reg == 3) = false := by simpa using n3
    clear n0 n1 n2 n3 e
    go_enter Tryz.func49, Tryz.ntmps49
    go_wp2
    go_ret
    exact ⟨rfl, by go_grown⟩
set_option maxRecDepth 100000 in
theorem tickd_c (x : Tm) (hm : x.May) (w : World) : Calls Tryz.prog 79 #[.agg #[.int .i64 x.l, .int .i64 x.c, .bool x.r, .bool x.a, .bool x.s, .bool x.g]] w
    fun e w' => e = .returned (.agg #[.int .i64 (tickT x).l, .int .i64 (tickT x).c, .bool (tickT x).r, .bool (tickT x).a, .bool (tickT x).s, .bool (tickT x).g]) ∧ Below w.heap.size w w' := by
  obtain ⟨l, c, r, a, s, g⟩ := x
  obtain ⟨h1, h2⟩ := hm
  dsimp only at h1 h2 ⊢
  cases r
  · go_enter Tryz.func79, Tryz.ntmps79
    go_wp2
    refine bodyPost_ret (v := .agg #[.int .i64 l, .int .i64 c, .bool false, .bool a, .bool s, .bool g]) (by simp [results, Tryz.results79, go_sem] <;> first | done | rfl | exact dec_eq Iff.rfl) rfl ⟨rfl, by go_grown⟩
  · by_cases h : 0 < c
    · have e : tickT ⟨l, c, true, a, s, g⟩ = ⟨l, c - 1, true, a, s, g⟩ := by unfold tickT; rw [if_pos rfl, if_pos h]
      rw [e]
      dsimp only
      go_enter Tryz.func79, Tryz.ntmps79
      go_wp2
      refine bodyPost_ret (v := .agg #[.int .i64 l, .int .i64 (c - 1), .bool true, .bool a, .bool s, .bool g]) (by simp [results, Tryz.results79, go_sem] <;> first | done | rfl | exact dec_eq Iff.rfl) rfl ⟨rfl, by go_grown⟩
    · cases a
      · have e : tickT ⟨l, c, true, false, s, g⟩ = ⟨l, c, false, false, s, true⟩ := by unfold tickT; rw [if_pos rfl, if_neg h, if_neg (by simp)]
        rw [e]
        dsimp only
        go_enter Tryz.func79, Tryz.ntmps79
        go_wp2
        refine bodyPost_ret (v := .agg #[.int .i64 l, .int .i64 c, .bool false, .bool false, .bool s, .bool true]) (by simp [results, Tryz.results79, go_sem] <;> first | done | rfl | exact dec_eq Iff.rfl) rfl ⟨rfl, by go_grown⟩
      · have e : tickT ⟨l, c, true, true, s, g⟩ = ⟨l, l, true, true, s, true⟩ := by unfold tickT; rw [if_pos rfl, if_neg h, if_pos rfl]
        rw [e]
        dsimp only
        go_enter Tryz.func79, Tryz.ntmps79
        go_wp2
        refine bodyPost_ret (v := .agg #[.int .i64 l, .int .i64 l, .bool true, .bool true, .bool s, .bool true]) (by simp [results, Tryz.results79, go_sem] <;> first | done | rfl | exact dec_eq Iff.rfl) rfl ⟨rfl, by go_grown⟩
end Go.Proofs.YtcnejgilmciljaaGreatDoor
set_option linter.unusedSimpArgs false
set_option linter.unusedVariables false
namespace Go.Proofs.YtcnejgilmciljaaGreatDoor
open Go.RowKit Go.PlainAid

set_option maxRecDepth 100000 in
theorem plain10_c (x : Tm) (w : World) : Calls Tryz.prog 20 #[.agg #[.int .i64 x.l, .int .i64 x.c, .bool x.r, .bool x.a, .bool x.s, .bool x.g]] w
    fun e w' => e = .returned (.agg #[.int .i64 x.l, .int .i64 x.c, .bool x.r, .bool x.a, .bool x.s, .bool x.g]) ∧ Below w.heap.size w w' := by
  go_enter Tryz.func20, Tryz.ntmps20
  go_wp2
  refine bodyPost_ret (v := .agg #[.int .i64 x.l, .int .i64 x.c, .bool x.r, .bool x.a, .bool x.s, .bool x.g]) (by simp [results, Tryz.results20, go_sem] <;> first | done | rfl | exact dec_eq Iff.rfl) rfl ⟨rfl, by go_grown⟩
theorem ret_agg6 {l c : Int} {r a s g : Bool} {y : Tm} (h : y = ⟨l, c, r, a, s, g⟩) : Ending.returned (.agg #[.int .i64 l, .int .i64 c, .bool r, .bool a, .bool s, .bool g]) = .returned (.agg #[.int .i64 y.l, .int .i64 y.c, .bool y.r, .bool y.a, .bool y.s, .bool y.g]) := by rw [h]
set_option maxRecDepth 100000 in
set_option maxHeartbeats 2000000 in
theorem writed_c (x : Tm) (reg v : Int) (hm : x.May) (hv : 0 ≤ v ∧ v ≤ 255) (w : World) : Calls Tryz.prog 44 #[.agg #[.int .i64 x.l, .int .i64 x.c, .bool x.r, .bool x.a, .bool x.s, .bool x.g], .int .i64 reg, .int .i64 v] w
    fun e w' => e = .returned (.agg #[.int .i64 (writeT x reg v).l, .int .i64 (writeT x reg v).c, .bool (writeT x reg v).r, .bool (writeT x reg v).a, .bool (writeT x reg v).s, .bool (writeT x reg v).g]) ∧ Below w.heap.size w w' := by
  obtain ⟨l, c, r, a, s, g⟩ := x
  obtain ⟨h1, h2⟩ := hm
  dsimp only at h1 h2 ⊢
  rcases reg_cases reg with rfl | rfl | rfl | rfl | ⟨n0, n1, n2, n3⟩
  · have e : writeT ⟨l, c, r, a, s, g⟩ 0 v = ⟨l / 256 * 256 + v, c, r, a, s, g⟩ := rfl
    rw [e]
    dsimp only
    go_enter Tryz.func44, Tryz.ntmps44
    go_wp2
    refine bodyPost_ret (v := .agg #[.int .i64 (l / 256 * 256 + v), .int .i64 c, .bool r, .bool a, .bool s, .bool g]) (by simp [results, Tryz.results44, go_sem] <;> first | done | rfl | exact dec_eq Iff.rfl) rfl ⟨rfl, by go_grown⟩
  · have e : writeT ⟨l, c, r, a, s, g⟩ 1 v = ⟨l % 256 + 256 * v, c, r, a, s, g⟩ := rfl
    rw [e]
    dsimp only
    obtain ⟨N, hN⟩ : ∃ N, l % 256 + 256 * v = N := ⟨_, rfl⟩
    rw [hN]
    go_enter Tryz.func44, Tryz.ntmps44
    go_wp2
    refine bodyPost_ret (v := .agg #[.int .i64 N, .int .i64 c, .bool r, .bool a, .bool s, .bool g]) (by simp [results, Tryz.results44, go_sem] <;> first | done | rfl | exact dec_eq Iff.rfl) rfl ⟨rfl, by go_grown⟩
  · have e : writeT ⟨l, c, r, a, s, g⟩ 2 v = ctlT ⟨l, c, r, a, s, g⟩ v := rfl
    rw [e]
    unfold ctlT
    dsimp only
    have e1 : (v % 2 == 1) = onT v 1 := by unfold onT; rw [Int.ediv_one]
    have e2 : (v / 2 % 2 == 1) = onT v 2 := rfl
    have e4 : (v / 4 % 2 == 1) = onT v 4 := rfl
    generalize onT v 1 = R at *
    generalize onT v 2 = A at *
    generalize onT v 4 = S at *
    cases R
    · go_enter Tryz.func44, Tryz.ntmps44
      go_wp2
      refine bodyPost_ret (v := .agg #[.int .i64 l, .int .i64 c, .bool false, .bool A, .bool S, .bool g]) (by simp [results, Tryz.results44, go_sem] <;> first | done | rfl | exact dec_eq Iff.rfl) rfl ⟨rfl, by go_grown⟩
    · go_enter Tryz.func44, Tryz.ntmps44
      go_wp2
      refine bodyPost_ret (v := .agg #[.int .i64 l, .int .i64 l, .bool true, .bool A, .bool S, .bool g]) (by simp [results, Tryz.results44, go_sem] <;> first | done | rfl | exact dec_eq Iff.rfl) rfl ⟨rfl, by go_grown⟩
  · have e : writeT ⟨l, c, r, a, s, g⟩ 3 v = ⟨l, c, r, a, s, false⟩ := rfl
    rw [e]
    dsimp only
    go_enter Tryz.func44, Tryz.ntmps44
    go_wp2
    refine bodyPost_ret (v := .agg #[.int .i64 l, .int .i64 c, .bool r, .bool a, .bool s, .bool false]) (by simp [results, Tryz.results44, go_sem] <;> first | done | rfl | exact dec_eq Iff.rfl) rfl ⟨rfl, by go_grown⟩
  · have e : writeT ⟨l, c, r, a, s, g⟩ reg v = ⟨l, c, r, a, s, g⟩ := by unfold writeT; rw [if_neg n0, if_neg n1, if_neg n2, if_neg n3]
    rw [e]
    dsimp only
    have d0 : (reg == 0) = false := by simpa using n0
    have d1 : (reg == 1) = false := by simpa using n1
    have d2 : (reg == 2) = false := by simpa using n2
    have d3 : (reg == 3) = false := by simpa using n3
    clear n0 n1 n2 n3 e
    go_enter Tryz.func44, Tryz.ntmps44
    go_wp2
    refine bodyPost_ret (v := .agg #[.int .i64 l, .int .i64 c, .bool r, .bool a, .bool s, .bool g]) (by simp [results, Tryz.results44, go_sem] <;> first | done | rfl | exact dec_eq Iff.rfl) rfl ⟨rfl, by go_grown⟩
end Go.Proofs.YtcnejgilmciljaaGreatDoor
set_option linter.unusedSimpArgs false
set_option linter.unusedVariables false
namespace Go.Proofs.YtcnejgilmciljaaGreatDoor
open Go.RowKit Go.PlainAid

def tmV (x : Tm) : List Value := [.int .i64 x.l, .int .i64 x.c, .bool x.r, .bool x.a, .bool x.s, .bool x.g]
/-- A timer at o of the block tb. -/
structure Tw (tb o : Nat) (x : Tm) (w : World) : Prop where
  c : ∀ i v, (tmV x)[i]? = some v → w.cell? ⟨tb, o + i, none⟩ = some v
  f : ∀ i, i < 6 → w.frozen? ⟨tb, o + i, none⟩ = false
/-- A timer behind calls that wrote it, and nothing else. -/
structure Tq (tb o : Nat) (w : World) (x : Tm) (u : World) : Prop where
  t : Tw tb o x u
  g : w.grownBy u (some tb)
  ot : ∀ j, j < o ∨ o + 6 ≤ j → u.cell? ⟨tb, j, none⟩ = w.cell? ⟨tb, j, none⟩ ∧ u.frozen? ⟨tb, j, none⟩ = w.frozen? ⟨tb, j, none⟩
section
variable {tb o : Nat} {x : Tm} {w u : World}
theorem Tw.cells (h : Tw tb o x w) : w.cell? ⟨tb, o, none⟩ = some (.int .i64 x.l) ∧ w.cell? ⟨tb, o + 1, none⟩ = some (.int .i64 x.c) ∧ w.cell? ⟨tb, o + 2, none⟩ = some (.bool x.r) ∧
    w.cell? ⟨tb, o + 3, none⟩ = some (.bool x.a) ∧ w.cell? ⟨tb, o + 4, none⟩ = some (.bool x.s) ∧ w.cell? ⟨tb, o + 5, none⟩ = some (.bool x.g) :=
  ⟨h.c 0 _ rfl, h.c 1 _ rfl, h.c 2 _ rfl, h.c 3 _ rfl, h.c 4 _ rfl, h.c 5 _ rfl⟩
theorem Tw.at0 (h : Tw tb 0 x w) : w.cell? ⟨tb, 0, none⟩ = some (.int .i64 x.l) ∧ w.cell? ⟨tb, 1, none⟩ = some (.int .i64 x.c) ∧ w.cell? ⟨tb, 2, none⟩ = some (.bool x.r) ∧
    w.cell? ⟨tb, 3, none⟩ = some (.bool x.a) ∧ w.cell? ⟨tb, 4, none⟩ = some (.bool x.s) ∧ w.cell? ⟨tb, 5, none⟩ = some (.bool x.g) := by
  simpa only [Nat.zero_add] using h.cells
theorem Tw.free0 (h : Tw tb 0 x w) : w.frozen? ⟨tb, 0, none⟩ = false ∧ w.frozen? ⟨tb, 1, none⟩ = false ∧ w.frozen? ⟨tb, 2, none⟩ = false ∧ w.frozen? ⟨tb, 3, none⟩ = false ∧ w.frozen? ⟨tb, 4, none⟩ = false ∧ w.frozen? ⟨tb, 5, none⟩ = false := by
  have h0 := h.f 0 (by omega)
  have h1 := h.f 1 (by omega)
  have h2 := h.f 2 (by omega)
  have h3 := h.f 3 (by omega)
  have h4 := h.f 4 (by omega)
  have h5 := h.f 5 (by omega)
  rw [Nat.zero_add] at h0 h1 h2 h3 h4 h5
  exact ⟨h0, h1, h2, h3, h4, h5⟩
theorem Tw.lt (h : Tw tb o x w) : tb < w.heap.size := klt (h.c 0 _ rfl)
theorem Tw.below (h : Tw tb o x w) (hb : Below w.heap.size w u) : Tw tb o x u := ⟨fun i v hv => kc hb (h.c i v hv), fun i hi => kfz hb h.lt (h.f i hi)⟩
theorem Tw.other {b : Nat} (h : Tw tb o x w) (hg : w.grownBy u (some b)) (hn : tb ≠ b) : Tw tb o x u := ⟨fun i v hv => kg hg hn (h.c i v hv), fun i hi => kgf hg hn h.lt (h.f i hi)⟩
theorem Tw.start (h : Tw tb o x w) : Tq tb o w x w := ⟨h, World.grownBy.refl _ _, fun j _ => ⟨rfl, rfl⟩⟩
theorem Tq.below {v : World} (h : Tq tb o w x u) (hlt : tb < w.heap.size) (hb : Below u.heap.size u v) : Tq tb o w x v :=
  ⟨h.t.below hb, World.grownBy.trans h.g (grown_belG hb), fun j hj => ⟨(hb.cell (p := ⟨tb, j, none⟩) h.t.lt).trans (h.ot j hj).1, (hb.frozen (p := ⟨tb, j, none⟩) h.t.lt).trans (h.ot j hj).2⟩⟩
theorem Tq.trans {y : Tm} {v : World} (h : Tq tb o w x u) (h' : Tq tb o u y v) : Tq tb o w y v :=
  ⟨h'.t, World.grownBy.trans h.g h'.g, fun j hj => ⟨(h'.ot j hj).1.trans (h.ot j hj).1, (h'.ot j hj).2.trans (h.ot j hj).2⟩⟩
theorem Tw.mk6 (c0 : w.cell? ⟨tb, o, none⟩ = some (.int .i64 x.l)) (c1 : w.cell? ⟨tb, o + 1, none⟩ = some (.int .i64 x.c)) (c2 : w.cell? ⟨tb, o + 2, none⟩ = some (.bool x.r))
    (c3 : w.cell? ⟨tb, o + 3, none⟩ = some (.bool x.a)) (c4 : w.cell? ⟨tb, o + 4, none⟩ = some (.bool x.s)) (c5 : w.cell? ⟨tb, o + 5, none⟩ = some (.bool x.g))
    (f0 : w.frozen? ⟨tb, o, none⟩ = false) (f1 : w.frozen? ⟨tb, o + 1, none⟩ = false) (f2 : w.frozen? ⟨tb, o + 2, none⟩ = false) (f3 : w.frozen? ⟨tb, o + 3, none⟩ = false) (f4 : w.frozen? ⟨tb, o + 4, none⟩ = false) (f5 : w.frozen? ⟨tb, o + 5, none⟩ = false) : Tw tb o x w := by
  refine ⟨fun i v hv => ?_, fun i hi => ?_⟩
  · match i, hv with
    | 0, hv => cases hv; exact c0
    | 1, hv => cases hv; exact c1
    | 2, hv => cases hv; exact c2
    | 3, hv => cases hv; exact c3
    | 4, hv => cases hv; exact c4
    | 5, hv => cases hv; exact c5
    | n + 6, hv => simp [tmV] at hv
  · match i, hi with
    | 0, _ => exact f0
    | 1, _ => exact f1
    | 2, _ => exact f2
    | 3, _ => exact f3
    | 4, _ => exact f4
    | 5, _ => exact f5
    | n + 6, h => omega
theorem Tw.mk0 (c0 : w.cell? ⟨tb, 0, none⟩ = some (.int .i64 x.l)) (c1 : w.cell? ⟨tb, 1, none⟩ = some (.int .i64 x.c)) (c2 : w.cell? ⟨tb, 2, none⟩ = some (.bool x.r))
    (c3 : w.cell? ⟨tb, 3, none⟩ = some (.bool x.a)) (c4 : w.cell? ⟨tb, 4, none⟩ = some (.bool x.s)) (c5 : w.cell? ⟨tb, 5, none⟩ = some (.bool x.g))
    (f0 : w.frozen? ⟨tb, 0, none⟩ = false) (f1 : w.frozen? ⟨tb, 1, none⟩ = false) (f2 : w.frozen? ⟨tb, 2, none⟩ = false) (f3 : w.frozen? ⟨tb, 3, none⟩ = false) (f4 : w.frozen? ⟨tb, 4, none⟩ = false) (f5 : w.frozen? ⟨tb, 5, none⟩ = false) : Tw tb 0 x w := by
  refine Tw.mk6 ?_ ?_ ?_ ?_ ?_ ?_ ?_ ?_ ?_ ?_ ?_ ?_ <;> (try rw [Nat.zero_add]) <;> assumption
/-- A timer's cells and marks in a row, as a plan's condition begins. -/
theorem Tw.row {R : Prop} (h : w.cell? ⟨tb, 0, none⟩ = some (.int .i64 x.l) ∧ w.frozen? ⟨tb, 0, none⟩ = false ∧ w.cell? ⟨tb, 1, none⟩ = some (.int .i64 x.c) ∧ w.frozen? ⟨tb, 1, none⟩ = false ∧ w.cell? ⟨tb, 2, none⟩ = some (.bool x.r) ∧ w.frozen? ⟨tb, 2, none⟩ = false ∧
    w.cell? ⟨tb, 3, none⟩ = some (.bool x.a) ∧ w.frozen? ⟨tb, 3, none⟩ = false ∧ w.cell? ⟨tb, 4, none⟩ = some (.bool x.s) ∧ w.frozen? ⟨tb, 4, none⟩ = false ∧ w.cell? ⟨tb, 5, none⟩ = some (.bool x.g) ∧ w.frozen? ⟨tb, 5, none⟩ = false ∧ R) : Tw tb 0 x w := by
  obtain ⟨c0, f0, c1, f1, c2, f2, c3, f3, c4, f4, c5, f5, _⟩ := h
  exact Tw.mk0 c0 c1 c2 c3 c4 c5 f0 f1 f2 f3 f4 f5
theorem Tq.set (h : Tq tb o w x u) (i : Nat) (hi : i < 6) (v : Value) (y : Tm) (hy : tmV y = (tmV x).set i v) : Tq tb o w y (u.setCell ⟨tb, o + i, none⟩ v) := by
  have hli : i < (tmV x).length := hi
  have hci := h.t.c i _ (List.getElem?_eq_getElem hli)
  refine ⟨⟨fun j z hz => ?_, fun j hj => ?_⟩, grown_cellG h.g, fun j hj => ⟨?_, ?_⟩⟩
  · rw [hy] at hz
    by_cases e : j = i
    · subst e
      rw [List.getElem?_set_self hli] at hz
      rw [← Option.some.inj hz]
      exact World.cell?_setCell_same _ _ _ hci
    · rw [List.getElem?_set_ne (fun h => e h.symm)] at hz
      rw [World.cell?_setCell_other _ _ _ _ (by intro hh; have := congrArg Addr.off hh; dsimp only at this; omega)]
      exact h.t.c j z hz
  · rw [World.frozen?_setCell]; exact h.t.f j hj
  · rw [World.cell?_setCell_other _ _ _ _ (by intro hh; have := congrArg Addr.off hh; dsimp only at this; omega)]; exact (h.ot j hj).1
  · rw [World.frozen?_setCell]; exact (h.ot j hj).2
end
section
variable {tb o : Nat} {l c : Int} {r a s g : Bool} {w u : World}
theorem Tq.setL (h : Tq tb o w ⟨l, c, r, a, s, g⟩ u) (n : Int) : Tq tb o w ⟨n, c, r, a, s, g⟩ (u.setCell ⟨tb, o, none⟩ (.int .i64 n)) := h.set 0 (by omega) _ _ rfl
theorem Tq.setC (h : Tq tb o w ⟨l, c, r, a, s, g⟩ u) (n : Int) : Tq tb o w ⟨l, n, r, a, s, g⟩ (u.setCell ⟨tb, o + 1, none⟩ (.int .i64 n)) := h.set 1 (by omega) _ _ rfl
theorem Tq.setR (h : Tq tb o w ⟨l, c, r, a, s, g⟩ u) (n : Bool) : Tq tb o w ⟨l, c, n, a, s, g⟩ (u.setCell ⟨tb, o + 2, none⟩ (.bool n)) := h.set 2 (by omega) _ _ rfl
theorem Tq.setA (h : Tq tb o w ⟨l, c, r, a, s, g⟩ u) (n : Bool) : Tq tb o w ⟨l, c, r, n, s, g⟩ (u.setCell ⟨tb, o + 3, none⟩ (.bool n)) := h.set 3 (by omega) _ _ rfl
theorem Tq.setS (h : Tq tb o w ⟨l, c, r, a, s, g⟩ u) (n : Bool) : Tq tb o w ⟨l, c, r, a, n, g⟩ (u.setCell ⟨tb, o + 4, none⟩ (.bool n)) := h.set 4 (by omega) _ _ rfl
theorem Tq.setG (h : Tq tb o w ⟨l, c, r, a, s, g⟩ u) (n : Bool) : Tq tb o w ⟨l, c, r, a, s, n⟩ (u.setCell ⟨tb, o + 5, none⟩ (.bool n)) := h.set 5 (by omega) _ _ rfl
end
/-- What a call that writes a timer leaves. -/
def TmEnd (tb o : Nat) (v : Value) (y : Tm) (w : World) : Ending → World → Prop := fun e w' => e = .returned v ∧ Tq tb o w y w'
end Go.Proofs.YtcnejgilmciljaaGreatDoor
