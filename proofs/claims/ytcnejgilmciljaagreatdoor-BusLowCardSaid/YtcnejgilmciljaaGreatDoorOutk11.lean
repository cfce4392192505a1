/-
  The program's Kept, Log, Left.
-/
import Derived.Test.YtcnejgilmciljaaGreatDoorOutp11
set_option linter.unusedSimpArgs false
set_option linter.unusedVariables false
namespace Go.Proofs.YtcnejgilmciljaaGreatDoor
open Go.RowKit Go.PlainAid

def leftP (S : Po) (reg : Int) : Nat := if reg = 0 then S.pub.length else if reg = 1 then S.sec.length else 0
set_option maxRecDepth 100000 in
theorem out_k_nil (w : World) : Calls Tryz.prog 57 #[.pointer none] w fun e w' => e = .returned (.slice none 0 0) ∧ Below w.heap.size w w' := by
  go_enter Tryz.func57, Tryz.ntmps57
  go_wp2
  go_ret
  exact ⟨rfl, by go_grown⟩
set_option maxRecDepth 100000 in
/-- What went out, in a slice of the caller's own. -/
theorem out_k (pb : Nat) (S : Po) (hS : Fit S) (F G : Nat → Prop) (w : World) (h : PO pb S F G w) :
    Calls Tryz.prog 57 #[.pointer (some ⟨pb, 0, none⟩)] w fun e w' => ∃ v', e = .returned v' ∧ w'.ownsRow w.heap.size 49 2 v' S.kept.length (S.kept.flatMap kE) ∧ Below w.heap.size w w' := by
  obtain ⟨x, y, a, b, c, h, rfl, rfl⟩ := h
  have hlt := h.hold.lt
  obtain ⟨hc, ho⟩ := h.at0.2.1
  have hl : S.kept.length ≤ 100000 := by have h1 := hS.log; have h2 := hS.out; have h3 := hS.kept; have h4 := hS.told; omega
  have HC := Lib.hid (clone_k S.kept hl _ w (HoldsW.own kE_len ho))
  obtain ⟨p, ca, rfl⟩ := own_form ho
  clear h ho hS hl
  generalize S.kept.length = n at *
  go_enter Tryz.func57, Tryz.ntmps57
  go_wp2_with fail
  refine (HC.out).mono ?_
  rintro _ u ⟨v', rfl, hr, hb⟩
  have HR := Lib.hid (And.intro hr hb)
  obtain ⟨p', c', rfl⟩ := own_form hr
  clear hr hb
  go_wp2
  go_ret
  exact ⟨_, rfl, HR.out⟩
set_option maxRecDepth 100000 in
theorem out_e_nil (w : World) : Calls Tryz.prog 56 #[.pointer none] w fun e w' => e = .returned (.slice none 0 0) ∧ Below w.heap.size w w' := by
  go_enter Tryz.func56, Tryz.ntmps56
  go_wp2
  go_ret
  exact ⟨rfl, by go_grown⟩
set_option maxRecDepth 100000 in
/-- What went out, in a slice of the caller's own. -/
theorem out_e (pb : Nat) (S : Po) (hS : Fit S) (F G : Nat → Prop) (w : World) (h : PO pb S F G w) :
    Calls Tryz.prog 56 #[.pointer (some ⟨pb, 0, none⟩)] w fun e w' => ∃ v', e = .returned v' ∧ w'.ownsRow w.heap.size 109 2 v' S.log.length (S.log.flatMap eE) ∧ Below w.heap.size w w' := by
  obtain ⟨x, y, a, b, c, h, rfl, rfl⟩ := h
  have hlt := h.hold.lt
  obtain ⟨hc, ho⟩ := h.at0.2.2
  have hl : S.log.length ≤ 100000 := by have h1 := hS.log; have h2 := hS.out; have h3 := hS.kept; have h4 := hS.told; omega
  have HC := Lib.hid (clone_e S.log hl _ w (HoldsW.own eE_len ho))
  obtain ⟨p, ca, rfl⟩ := own_form ho
  clear h ho hS hl
  generalize S.log.length = n at *
  go_enter Tryz.func56, Tryz.ntmps56
  go_wp2_with fail
  refine (HC.out).mono ?_
  rintro _ u ⟨v', rfl, hr, hb⟩
  have HR := Lib.hid (And.intro hr hb)
  obtain ⟨p', c', rfl⟩ := own_form hr
  clear hr hb
  go_wp2
  go_ret
  exact ⟨_, rfl, HR.out⟩
set_option maxRecDepth 100000 in
theorem left_nil (reg : Int) (w : World) : Calls Tryz.prog 58 #[.pointer none, .int .i64 reg] w fun e w' => e = .returned (.int .i64 0) ∧ Below w.heap.size w w' := by
  go_enter Tryz.func58, Tryz.ntmps58
  go_wp2
  go_ret
  exact ⟨rfl, by go_grown⟩
set_option maxRecDepth 100000 in
/-- How much is still to come in. -/
theorem left_c (pb : Nat) (S : Po) (F G : Nat → Prop) (reg : Int) (w : World) (h : PO pb S F G w) :
    Calls Tryz.prog 58 #[.pointer (some ⟨pb, 0, none⟩), .int .i64 reg] w fun e w' => e = .returned (.int .i64 (leftP S reg : Nat)) ∧ Below w.heap.size w w' := by
  obtain ⟨x, y, a, b, c, h, rfl, rfl⟩ := h
  have hlt := h.hold.lt
  obtain ⟨p1, c1, rfl⟩ := h.p.h.form
  obtain ⟨p2, c2, rfl⟩ := h.s.h.form
  have k1 := h.p.c
  have k2 := h.s.c
  rw [secT_len] at k2
  clear h
  by_cases h0 : reg = 0
  · subst h0
    rw [show leftP S 0 = S.pub.length from rfl]
    go_enter Tryz.func58, Tryz.ntmps58
    go_wp2
    go_ret
    exact ⟨rfl, by go_grown⟩
  · by_cases h1 : reg = 1
    · subst h1
      rw [show leftP S 1 = S.sec.length from rfl]
      go_enter Tryz.func58, Tryz.ntmps58
      go_wp2
      go_ret
      exact ⟨rfl, by go_grown⟩
    · rw [show leftP S reg = 0 from by unfold leftP; rw [if_neg h0, if_neg h1]]
      have d0 : (reg == 0) = false := by simpa using h0
      have d1 : (reg == 1) = false := by simpa using h1
      clear h0 h1
      go_enter Tryz.func58, Tryz.ntmps58
      go_wp2
      go_ret
      exact ⟨rfl, by go_grown⟩
end Go.Proofs.YtcnejgilmciljaaGreatDoor
