/-
  The program's Out, Kept, Log, Left, and how what comes in is cloned.
-/
import Derived.Test.YtbahjcnamalhcaaNewp11
set_option linter.unusedSimpArgs false
set_option linter.unusedVariables false
namespace Go.Proofs.Ytbahjcnamalhcaa
open Go.RowKit Go.PlainAid

set_option maxRecDepth 100000 in
theorem out_b_nil (w : World) : Calls Try.prog 17 #[.pointer none] w fun e w' => e = .returned (.slice none 0 0) ∧ Below w.heap.size w w' := by
  go_enter Try.func17, Try.ntmps17
  go_wp2
  go_ret
  exact ⟨rfl, by go_grown⟩
set_option maxRecDepth 100000 in
/-- What went out, in a slice of the caller's own. -/
theorem out_b (pb : Nat) (S : Po) (hS : Fit S) (F G : Nat → Prop) (w : World) (h : PO pb S F G w) :
    Calls Try.prog 17 #[.pointer (some ⟨pb, 0, none⟩)] w fun e w' => ∃ v', e = .returned v' ∧ w'.ownsRow w.heap.size 5 1 v' S.out.length (S.out.flatMap bE) ∧ Below w.heap.size w w' := by
  obtain ⟨x, y, a, b, c, h, rfl, rfl⟩ := h
  have hlt := h.hold.lt
  obtain ⟨hc, ho⟩ := h.at0.1
  have hl : S.out.length ≤ 100000 := by have h1 := hS.log; have h2 := hS.out; have h3 := hS.kept; have h4 := hS.told; omega
  have HC := Lib.hid (clone_b S.out hl _ w (HoldsW.own bE_len ho))
  obtain ⟨p, ca, rfl⟩ := own_form ho
  clear h ho hS hl
  generalize S.out.length = n at *
  go_enter Try.func17, Try.ntmps17
  go_wp2_with fail
  refine (HC.out).mono ?_
  rintro _ u ⟨v', rfl, hr, hb⟩
  have HR := Lib.hid (And.intro hr hb)
  obtain ⟨p', c', rfl⟩ := own_form hr
  clear hr hb
  go_wp2
  go_ret
  exact ⟨_, rfl, HR.out⟩
set_option maxRecDepth 100000 in
theorem out_k_nil (w : World) : Calls Try.prog 18 #[.pointer none] w fun e w' => e = .returned (.slice none 0 0) ∧ Below w.heap.size w w' := by
  go_enter Try.func18, Try.ntmps18
  go_wp2
  go_ret
  exact ⟨rfl, by go_grown⟩
set_option maxRecDepth 100000 in
/-- What went out, in a slice of the caller's own. -/
theorem out_k (pb : Nat) (S : Po) (hS : Fit S) (F G : Nat → Prop) (w : World) (h : PO pb S F G w) :
    Calls Try.prog 18 #[.pointer (some ⟨pb, 0, none⟩)] w fun e w' => ∃ v', e = .returned v' ∧ w'.ownsRow w.heap.size 40 2 v' S.kept.length (S.kept.flatMap kE) ∧ Below w.heap.size w w' := by
  obtain ⟨x, y, a, b, c, h, rfl, rfl⟩ := h
  have hlt := h.hold.lt
  obtain ⟨hc, ho⟩ := h.at0.2.1
  have hl : S.kept.length ≤ 100000 := by have h1 := hS.log; have h2 := hS.out; have h3 := hS.kept; have h4 := hS.told; omega
  have HC := Lib.hid (clone_k S.kept hl _ w (HoldsW.own kE_len ho))
  obtain ⟨p, ca, rfl⟩ := own_form ho
  clear h ho hS hl
  generalize S.kept.length = n at *
  go_enter Try.func18, Try.ntmps18
  go_wp2_with fail
  refine (HC.out).mono ?_
  rintro _ u ⟨v', rfl, hr, hb⟩
  have HR := Lib.hid (And.intro hr hb)
  obtain ⟨p', c', rfl⟩ := own_form hr
  clear hr hb
  go_wp2
  go_ret
  exact ⟨_, rfl, HR.out⟩
set_option maxRecDepth 100000 in
theorem out_e_nil (w : World) : Calls Try.prog 19 #[.pointer none] w fun e w' => e = .returned (.slice none 0 0) ∧ Below w.heap.size w w' := by
  go_enter Try.func19, Try.ntmps19
  go_wp2
  go_ret
  exact ⟨rfl, by go_grown⟩
set_option maxRecDepth 100000 in
/-- What went out, in a slice of the caller's own. -/
theorem out_e (pb : Nat) (S : Po) (hS : Fit S) (F G : Nat → Prop) (w : World) (h : PO pb S F G w) :
    Calls Try.prog 19 #[.pointer (some ⟨pb, 0, none⟩)] w fun e w' => ∃ v', e = .returned v' ∧ w'.ownsRow w.heap.size 58 2 v' S.log.length (S.log.flatMap eE) ∧ Below w.heap.size w w' := by
  obtain ⟨x, y, a, b, c, h, rfl, rfl⟩ := h
  have hlt := h.hold.lt
  obtain ⟨hc, ho⟩ := h.at0.2.2
  have hl : S.log.length ≤ 100000 := by have h1 := hS.log; have h2 := hS.out; have h3 := hS.kept; have h4 := hS.told; omega
  have HC := Lib.hid (clone_e S.log hl _ w (HoldsW.own eE_len ho))
  obtain ⟨p, ca, rfl⟩ := own_form ho
  clear h ho hS hl
  generalize S.log.length = n at *
  go_enter Try.func19, Try.ntmps19
  go_wp2_with fail
  refine (HC.out).mono ?_
  rintro _ u ⟨v', rfl, hr, hb⟩
  have HR := Lib.hid (And.intro hr hb)
  obtain ⟨p', c', rfl⟩ := own_form hr
  clear hr hb
  go_wp2
  go_ret
  exact ⟨_, rfl, HR.out⟩
set_option maxRecDepth 100000 in
set_option maxHeartbeats 1000000 in
theorem clonei_b (pb o : Nat) (F : Nat → Prop) (l : List (Int)) (hl : l.length ≤ 100000) (v : Value) (w : World) (h : Inq bE 1 pb o F v l w) :
    Calls Try.prog 23 #[.pointer (some ⟨pb, o, none⟩)] w fun e w' => ∃ v', e = .returned (.agg #[v']) ∧ w'.ownsRow w.heap.size 5 1 v' l.length (l.flatMap bE) ∧ Below w.heap.size w w' := by
  have HC := Lib.hid (fun W (hW : Below w.heap.size w W) => clone_b l hl _ W (h.h.below hW))
  obtain ⟨p0, c0, rfl⟩ := h.h.form
  have hp_0 := h.c
  have hlt := klt hp_0
  obtain ⟨q1, q2, q3, q4, q5⟩ := ap0 hlt
  generalize l.length = n at *
  clear h
  go_enter Try.func23, Try.ntmps23
  go_wp2_with fail
  refine (HC.out _ (by go_grown)).mono ?_
  rintro _ u ⟨v', rfl, hr, hb⟩
  have hz := hb.size
  simp only [World.size_alloc] at hz
  have s0 : u.cell? ⟨w.heap.size, 0, none⟩ = some (.slice none 0 0) := kc hb (by go_simp; first | done | rfl)
  have f0 : u.frozen? ⟨w.heap.size, 0, none⟩ = false := kfz hb (by simp) (by go_simp)
  have hws : w.heap.size < u.heap.size := by omega
  have HB := Lib.hid (kb ((Below.refl w.heap.size w).alloc (Nat.le_refl _) (.cells #[.slice none 0 0] 62)) hb)
  have HR := Lib.hid hr
  obtain ⟨p', c', rfl⟩ := own_form hr
  clear hr hb hz
  go_wp2
  refine bodyPost_ret (v := .agg #[.slice p' n c']) (by simp [results, Try.results23, go_sem, s0] <;> first | done | rfl) rfl ?_
  refine ⟨_, rfl, ?_, HB.out.setCell ?_ _⟩
  · exact own_low (ownsRow_setCell_below HR.out (by simp) _) (by simp)
  · simp
set_option maxRecDepth 100000 in
set_option maxHeartbeats 1000000 in
theorem clonei_k (pb o : Nat) (F : Nat → Prop) (l : List (Int × Int)) (hl : l.length ≤ 100000) (v : Value) (w : World) (h : Inq kE 2 pb o F v l w) :
    Calls Try.prog 24 #[.pointer (some ⟨pb, o, none⟩)] w fun e w' => ∃ v', e = .returned (.agg #[v']) ∧ w'.ownsRow w.heap.size 40 2 v' l.length (l.flatMap kE) ∧ Below w.heap.size w w' := by
  have HC := Lib.hid (fun W (hW : Below w.heap.size w W) => clone_k l hl _ W (h.h.below hW))
  obtain ⟨p0, c0, rfl⟩ := h.h.form
  have hp_0 := h.c
  have hlt := klt hp_0
  obtain ⟨q1, q2, q3, q4, q5⟩ := ap0 hlt
  generalize l.length = n at *
  clear h
  go_enter Try.func24, Try.ntmps24
  go_wp2_with fail
  refine (HC.out _ (by go_grown)).mono ?_
  rintro _ u ⟨v', rfl, hr, hb⟩
  have hz := hb.size
  simp only [World.size_alloc] at hz
  have s0 : u.cell? ⟨w.heap.size, 0, none⟩ = some (.slice none 0 0) := kc hb (by go_simp; first | done | rfl)
  have f0 : u.frozen? ⟨w.heap.size, 0, none⟩ = false := kfz hb (by simp) (by go_simp)
  have hws : w.heap.size < u.heap.size := by omega
  have HB := Lib.hid (kb ((Below.refl w.heap.size w).alloc (Nat.le_refl _) (.cells #[.slice none 0 0] 65)) hb)
  have HR := Lib.hid hr
  obtain ⟨p', c', rfl⟩ := own_form hr
  clear hr hb hz
  go_wp2
  refine bodyPost_ret (v := .agg #[.slice p' n c']) (by simp [results, Try.results24, go_sem, s0] <;> first | done | rfl) rfl ?_
  refine ⟨_, rfl, ?_, HB.out.setCell ?_ _⟩
  · exact own_low (ownsRow_setCell_below HR.out (by simp) _) (by simp)
  · simp
set_option maxRecDepth 100000 in
theorem left_nil (reg : Int) (w : World) : Calls Try.prog 20 #[.pointer none, .int .i64 reg] w fun e w' => e = .returned (.int .i64 0) ∧ Below w.heap.size w w' := by
  go_enter Try.func20, Try.ntmps20
  go_wp2
  go_ret
  exact ⟨rfl, by go_grown⟩
def leftP (S : Po) (reg : Int) : Nat := if reg = 0 then S.pub.length else if reg = 1 then S.sec.length else 0
set_option maxRecDepth 100000 in
/-- How much is still to come in. -/
theorem left_c (pb : Nat) (S : Po) (F G : Nat → Prop) (reg : Int) (w : World) (h : PO pb S F G w) :
    Calls Try.prog 20 #[.pointer (some ⟨pb, 0, none⟩), .int .i64 reg] w fun e w' => e = .returned (.int .i64 (leftP S reg : Nat)) ∧ Below w.heap.size w w' := by
  obtain ⟨x, y, a, b, c, h, rfl, rfl⟩ := h
  have hlt := h.hold.lt
  obtain ⟨p1, c1, rfl⟩ := h.p.h.form
  obtain ⟨p2, c2, rfl⟩ := h.s.h.form
  have k1 := h.p.c
  have k2 := h.s.c
  rw [secT_len] at k2
  clear h
  by_cases h0 : reg = 0
  · subst h0
    rw [show leftP S 0 = S.pub.length from rfl]
    go_enter Try.func20, Try.ntmps20
    go_wp2
    go_ret
    exact ⟨rfl, by go_grown⟩
  · by_cases h1 : reg = 1
    · subst h1
      rw [show leftP S 1 = S.sec.length from rfl]
      go_enter Try.func20, Try.ntmps20
      go_wp2
      go_ret
      exact ⟨rfl, by go_grown⟩
    · rw [show leftP S reg = 0 from by unfold leftP; rw [if_neg h0, if_neg h1]]
      have d0 : (reg == 0) = false := by simpa using h0
      have d1 : (reg == 1) = false := by simpa using h1
      clear h0 h1
      go_enter Try.func20, Try.ntmps20
      go_wp2
      go_ret
      exact ⟨rfl, by go_grown⟩
end Go.Proofs.Ytbahjcnamalhcaa
