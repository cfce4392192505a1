/-
  A scope through which the run goes with jumps ahead: at a goto the walk goes on behind the label; no more than so many jumps.
-/
import Derived.Scope
import Derived.WalkMore
import Derived.Lib.Hide
set_option linter.unusedSimpArgs false
set_option linter.unusedVariables false
namespace Go.Proofs.YtcplegelppfdeaaDoor
open Go Go.RowKit

/-- As Q; a goto goes on behind its label, up to n times. -/
def Into (P : Program) (c : Code) : Nat → (Exit → Act → World → Prop) → Exit → Act → World → Prop
  | n + 1, Q, .goto l, a, w => ∃ rest, findLabel c l = some rest ∧ rest.wp P (Into P c n Q) a w
  | 0, _, .goto _, _, _ => False
  | _, Q, e, a, w => Q e a w

section
variable {P : Program} {a : Act} {w : World} {Q : Exit → Act → World → Prop} {c : Code} {n : Nat}
theorem Into.normal : Into P c n Q .normal a w = Q .normal a w := by cases n <;> rfl
theorem Into.exit (id : Nat) : Into P c n Q (.exit id) a w = Q (.exit id) a w := by cases n <;> rfl
theorem Into.ret : Into P c n Q .ret a w = Q .ret a w := by cases n <;> rfl
theorem Into.panic (ch : List PanicEntry) : Into P c n Q (.panic ch) a w = Q (.panic ch) a w := by cases n <;> rfl
theorem Into.outgrown : Into P c n Q .outgrown a w = Q .outgrown a w := by cases n <;> rfl
theorem Into.goto {l : Nat} {rest : Code} (hf : findLabel c l = some rest) (h : rest.wp P (Into P c n Q) a w) : Into P c (n + 1) Q (.goto l) a w := ⟨rest, hf, h⟩

theorem wp_scope_into (n : Nat) (h : c.wp P (Into P c n Q) a w) : (Code.scope c).wp P Q a w := by
  intro b k cs
  have key : ∀ (n : Nat) (rest : Code) (a : Act) (w : World), rest.wp P (Into P c n Q) a w →
      ∃ e a' w', Q e a' w' ∧ Arrives P (lone (b.at a (.code rest :: .inScope c :: k)) cs w) b k cs e a' w' := by
    intro n
    induction n with
    | zero =>
      intro rest a w h
      obtain ⟨e, a₁, w₁, hq, harr⟩ := h b (.inScope c :: k) cs
      cases e with
      | normal => exact ⟨.normal, a₁, w₁, hq, Steps.trans harr (.one step_inScope)⟩
      | exit id => exact ⟨.exit id, a₁, w₁, hq, fun k' hk => harr k' (by simp [exitTo, hk])⟩
      | goto l => exact hq.elim
      | ret => exact ⟨_, a₁, w₁, hq, harr⟩
      | panic ch => exact ⟨_, a₁, w₁, hq, harr⟩
      | outgrown => exact ⟨_, a₁, w₁, hq, harr⟩
    | succ n ih =>
      intro rest a w h
      obtain ⟨e, a₁, w₁, hq, harr⟩ := h b (.inScope c :: k) cs
      cases e with
      | normal => exact ⟨.normal, a₁, w₁, hq, Steps.trans harr (.one step_inScope)⟩
      | exit id => exact ⟨.exit id, a₁, w₁, hq, fun k' hk => harr k' (by simp [exitTo, hk])⟩
      | goto l =>
        obtain ⟨r2, hf, h2⟩ := hq
        obtain ⟨e₂, a₂, w₂, hq₂, harr₂⟩ := ih r2 a₁ w₁ h2
        exact ⟨e₂, a₂, w₂, hq₂, .of_steps (harr _ (by simp [gotoIn, hf])) harr₂⟩
      | ret => exact ⟨_, a₁, w₁, hq, harr⟩
      | panic ch => exact ⟨_, a₁, w₁, hq, harr⟩
      | outgrown => exact ⟨_, a₁, w₁, hq, harr⟩
  obtain ⟨e, a₁, w₁, hq, harr⟩ := key n c a w h
  exact ⟨e, a₁, w₁, hq, .of_steps (.one step_scope) harr⟩
theorem wp_goto_hid {C rest : Code} {K : Act → World → Prop} {l : Nat} (hC : Hid (C = c)) (hf : findLabel c l = some rest) (h : rest.wp P (Into P C n Q) a w) :
    (Code.goto l).wp P (Exit.then K (Into P C (n + 1) Q)) a w := by
  have e : C = c := hC
  subst e
  apply wp_goto
  exact Into.goto hf h
theorem wp_scope_hid (n : Nat) (h : ∀ C, Hid (C = c) → c.wp P (Into P C n Q) a w) : (Code.scope c).wp P Q a w := wp_scope_into n (h c (Lib.hid rfl))
end
end Go.Proofs.YtcplegelppfdeaaDoor
