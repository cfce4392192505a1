/-
  What 'within' of the laws of sums comes to, of sums whose secrets are fewer.
-/
import Derived.Test.YtdmgdldadpkhgaaKeepV
set_option linter.unusedSimpArgs false
set_option linter.unusedVariables false
namespace Go.Proofs.Ytdmgdldadpkhgaa
open Go.RowKit

/-- All that is secret of the one is so of the other. -/
structure Under (t t' : ST) : Prop where
  a : t.t &&& ~~~t'.t = 0#8
  n : t.n = true → t'.n = true
  v : t.v = true → t'.v = true
  z : t.z = true → t'.z = true
  c : t.c = true → t'.c = true
set_option maxRecDepth 100000 in
set_option maxHeartbeats 4000000 in
theorem within_yes (s : SV) (t t' : ST) (h : Under t t') (w : World) : Calls Try.prog 27 #[VS s t, VS s t'] w fun e w' => e = .returned (.bool true) ∧ Below w.heap.size w w' := by
  obtain ⟨h0, h1, h2, h3, h4⟩ := h
  have hz : bits .andNot .u8 (u8 t.t) (u8 t'.t) = 0 := by rw [u8_andNot, h0]; rfl
  have H1 : Hid (t.n = false ∨ t.n = true ∧ t'.n = true) := by
    cases h : t.n
    · exact Or.inl rfl
    · exact Or.inr ⟨rfl, h1 h⟩
  have H2 : Hid (t.v = false ∨ t.v = true ∧ t'.v = true) := by
    cases h : t.v
    · exact Or.inl rfl
    · exact Or.inr ⟨rfl, h2 h⟩
  have H3 : Hid (t.z = false ∨ t.z = true ∧ t'.z = true) := by
    cases h : t.z
    · exact Or.inl rfl
    · exact Or.inr ⟨rfl, h3 h⟩
  have H4 : Hid (t.c = false ∨ t.c = true ∧ t'.c = true) := by
    cases h : t.c
    · exact Or.inl rfl
    · exact Or.inr ⟨rfl, h4 h⟩
  clear h0 h1 h2 h3 h4
  have P : ∀ (a b : Bool), (a = false ∨ a = true ∧ b = true) → ((!a || b) = true) := by intro a b h; cases a <;> cases b <;> simp_all
  obtain ⟨tt, tn, tv, tz, tc⟩ := t
  obtain ⟨ut, un, uv, uz, uc⟩ := t'
  simp only at H1 H2 H3 H4 hz
  rcases H1.out with rfl | ⟨rfl, rfl⟩ <;> rcases H2.out with rfl | ⟨rfl, rfl⟩ <;> rcases H3.out with rfl | ⟨rfl, rfl⟩ <;> rcases H4.out with rfl | ⟨rfl, rfl⟩
  all_goals
    clear H1 H2 H3 H4 P
    go_enter Try.func27, Try.ntmps27
    go_wp2
    go_ret
    exact ⟨by simp, by go_grown⟩
end Go.Proofs.Ytdmgdldadpkhgaa
