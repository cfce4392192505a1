/-
  Layer 8's laws: memories at names of their own; what the answers come to.
-/
import Derived.Test.YtcilnbkmaoneaaaDoorAwake8
set_option linter.unusedSimpArgs false
set_option linter.unusedVariables false
namespace Go.Proofs.YtcilnbkmaoneaaaDoor
open Go.RowKit Go.PlainAid

theorem below_grown2 {w u v : World} {N bb : Nat} (h : Below N w u) (hg : u.grownBy v (some bb)) (hb : N ≤ bb ∧ N ≤ w.heap.size) : Below N w v :=
  ⟨hg.os.trans h.os, hg.tape.trans h.tape, hg.output.trans h.output, Nat.le_trans h.size hg.size, fun b hl => (hg.block b (Nat.lt_of_lt_of_le hl (Nat.le_trans hb.2 h.size)) (by simpa using fun e : b = bb => by omega)).trans (h.block b hl)⟩
/-- A memory that was made, at two blocks newer than w. -/
def MadeEnd (w : World) (M : Int → Int × Int) : Ending → World → Prop := fun e w' => ∃ mb bb, e = .returned (.pointer (some ⟨mb, 0, none⟩)) ∧ Below w.heap.size w w' ∧ Pm mb bb w' M ∧ w.heap.size ≤ mb ∧ w.heap.size ≤ bb
theorem new_x (w : World) (h0 : 0 < w.heap.size) : Calls Tryd.prog 19 #[] w (MadeEnd w zeroM) :=
  (newp_c w h0).mono fun _ _ ⟨h1, h2, h3⟩ => ⟨_, _, h1, h2, h3, by omega, by omega⟩
theorem clone_x (M : Int → Int × Int) (mb bb : Nat) (w : World) (hP : Pm mb bb w M) : Calls Tryd.prog 30 #[.pointer (some ⟨mb, 0, none⟩)] w (MadeEnd w M) :=
  (clonep_c M mb bb w hP).mono fun _ _ ⟨h1, h2, h3⟩ => ⟨_, _, h1, h2, h3, by omega, by omega⟩
/-- Another memory's store leaves this one as it is. -/
theorem Pm.other {mb bb b2 : Nat} {w u : World} {M : Int → Int × Int} (h : Pm mb bb w M) (hg : w.grownBy u (some b2)) (h1 : mb ≠ b2) (h2 : bb ≠ b2) : Pm mb bb u M :=
  h.keep (hg.block mb (klt h.c0) (by simpa using h1)) (hg.block bb h.lt (by simpa using h2))
theorem writeM_e (M N : Int → Int × Int) (a v t : Int) : (writeM M a v t).1 = (prM N a).e := by
  unfold writeM prM
  split
  · rfl
  · split
    · rfl
    · split <;> split <;> rfl
theorem prM_e (M N : Int → Int × Int) (a : Int) : (prM M a).e = (prM N a).e := by
  rw [← writeM_e M M a 0 0, writeM_e M N a 0 0]
/-- What is read where something was written: nothing (an error), the byte (RAM), what was there. -/
theorem read_write (M : Int → Int × Int) (a v t : Int) :
    (((prM M a).e == 0) = false) ∨ ((prM M a).e = 0 ∧ ramB a = true ∧ (prM (writeM M a v t).2 a).v = v ∧ (prM (writeM M a v t).2 a).t = t) ∨
    ((prM M a).e = 0 ∧ ramB a = false ∧ (prM (writeM M a v t).2 a).v = (prM M a).v ∧ (prM (writeM M a v t).2 a).t = (prM M a).t) := by
  rcases kindI_cases a a with ⟨k, h, _⟩ | ⟨k, h, _⟩ | ⟨k, h, _⟩ | ⟨k, h, _⟩ | ⟨k, h⟩
  · right; left
    unfold prM writeM
    simp only [k, h]
    simp [setM]
  · left
    unfold prM
    simp only [k]
    rfl
  · right; right
    have : ramB a = false := by unfold ramB; simp; omega
    unfold prM writeM
    simp [k, this]
  · right; right
    have : ramB a = false := by unfold romB at h; unfold ramB; simp at h ⊢; omega
    unfold prM writeM
    simp [k, this]
  · left
    unfold prM
    simp only [k]
    rfl
/-- What is read elsewhere. -/
theorem read_other (M : Int → Int × Int) (a p v t : Int) (h : p ≠ a) : prM (writeM M a v t).2 p = prM M p := by
  unfold prM writeM
  split
  · rfl
  · split
    · rfl
    · split
      · rfl
      · split
        · rfl
        · split
          · rfl
          · split
            · simp only [setM, if_neg h]
            · rfl
/-- What stands at the one address, behind writes at both. -/
theorem keeps_p (p q av at_ bv bt : Int) (h : p ≠ q) :
    (((prM zeroM p).e == 0) = false) ∨ ((prM zeroM p).e = 0 ∧ ramB p = false) ∨ ((prM zeroM p).e = 0 ∧ ramB p = true ∧ (prM (writeM (writeM zeroM p av at_).2 q bv bt).2 p).v = av ∧ (prM (writeM (writeM zeroM p av at_).2 q bv bt).2 p).t = at_) := by
  rw [read_other _ q p bv bt h]
  rcases read_write zeroM p av at_ with h1 | ⟨h1, h2, h3⟩ | ⟨h1, h2, h3⟩
  · exact .inl h1
  · exact .inr (.inr ⟨h1, h2, h3⟩)
  · exact .inr (.inl ⟨h1, h2⟩)
end Go.Proofs.YtcilnbkmaoneaaaDoor
