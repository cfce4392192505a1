/-
  The program's timer: IRQ, Tick, mayBe, has, control, Write.
-/
import Derived.Test.YtcpegglfgfgekaaRow10
set_option linter.unusedSimpArgs false
set_option linter.unusedVariables false
namespace Go.Proofs.Ytcpegglfgfgekaa
open Go.RowKit Go.PlainAid

set_option maxRecDepth 100000 in
theorem irqn_c (w : World) : Calls Try.prog 13 #[.pointer none] w fun e w' => e = .returned (.bool false) ∧ Below w.heap.size w w' := by
  go_enter Try.func13, Try.ntmps13
  go_wp2
  go_ret
  exact ⟨rfl, by go_grown⟩
set_option maxRecDepth 100000 in
theorem irqp_c (tb o : Nat) (x : Tm) (w : World) (h : Tw tb o x w) : Calls Try.prog 13 #[.pointer (some ⟨tb, o, none⟩)] w fun e w' => e = .returned (.bool (x.g && x.s)) ∧ Below w.heap.size w w' := by
  obtain ⟨h0, h1, h2, h3, h4, h5⟩ := h.cells
  obtain ⟨l, c, r, a, s, g⟩ := x
  dsimp only at *
  clear h
  cases g
  all_goals
    go_enter Try.func13, Try.ntmps13
    go_wp2
    go_ret
    exact ⟨rfl, by go_grown⟩
set_option maxRecDepth 100000 in
theorem tickn_c (w : World) : Calls Try.prog 18 #[.pointer none] w fun e w' => e = .returned (.tuple #[]) ∧ Below w.heap.size w w' := by
  go_enter Try.func18, Try.ntmps18
  go_wp2
  go_end0
  exact ⟨rfl, by go_grown⟩
set_option maxRecDepth 100000 in
theorem tickp_c (tb o : Nat) (x : Tm) (hm : x.May) (w : World) (h : Tw tb o x w) : Calls Try.prog 18 #[.pointer (some ⟨tb, o, none⟩)] w (TmEnd tb o (.tuple #[]) (tickT x) w) := by
  obtain ⟨h0, h1, h2, h3, h4, h5⟩ := h.cells
  have f1 := h.f 1 (by omega)
  have f2 := h.f 2 (by omega)
  have f5 := h.f 5 (by omega)
  have HP := Lib.hid h.start
  obtain ⟨l, c, r, a, s, g⟩ := x
  obtain ⟨m1, m2⟩ := hm
  dsimp only at *
  clear h
  cases r
  · rw [tickT_still _ rfl]
    go_enter Try.func18, Try.ntmps18
    go_wp2
    go_end0
    exact ⟨rfl, HP.out⟩
  · by_cases hc : 0 < c
    · have e : tickT ⟨l, c, true, a, s, g⟩ = ⟨l, c - 1, true, a, s, g⟩ := by unfold tickT; rw [if_pos rfl, if_pos hc]
      rw [e]
      clear e
      go_enter Try.func18, Try.ntmps18
      go_wp2
      go_end0
      exact ⟨rfl, HP.out.setC (c - 1)⟩
    · cases a
      · have e : tickT ⟨l, c, true, false, s, g⟩ = ⟨l, c, false, false, s, true⟩ := by unfold tickT; rw [if_pos rfl, if_neg hc, if_neg (by simp)]
        rw [e]
        clear e
        go_enter Try.func18, Try.ntmps18
        go_wp2
        go_end0
        exact ⟨rfl, (HP.out.setG true).setR false⟩
      · have e : tickT ⟨l, c, true, true, s, g⟩ = ⟨l, l, true, true, s, true⟩ := by unfold tickT; rw [if_pos rfl, if_neg hc, if_pos rfl]
        rw [e]
        clear e
        go_enter Try.func18, Try.ntmps18
        go_wp2
        go_end0
        exact ⟨rfl, ((HP.out.setG true).setR true).setC l⟩
end Go.Proofs.Ytcpegglfgfgekaa
