/- Layer 6's laws: the chapter's -/
import Derived.Test.YtjcmblbnbpikfaaGreatDoorProg4
set_option linter.unusedSimpArgs false
set_option linter.unusedVariables false
namespace Go.Proofs.YtjcmblbnbpikfaaGreatDoor
open Go.RowKit Go.PlainAid

def HoldsT (w : World) (v : Value) (l : List Tk) : Prop :=
 (v = .slice none 0 0 ∧ l = []) ∨ ∃ g o cap, v = .slice (some ⟨g, o, none⟩) l.length cap ∧ l.length ≤ cap ∧ ∀ j (x : Tk), l[j]? = some x → w.cell? ⟨g, o + j * 5, none⟩ = some (.int .i64 x.k) ∧ w.cell? ⟨g, o + j * 5 + 1, none⟩ = some (.string (txB x.t)) ∧ w.cell? ⟨g, o + j * 5 + 2, none⟩ = some (.int .i64 x.n) ∧ w.cell? ⟨g, o + j * 5 + 3, none⟩ = some (.int .i64 x.line) ∧ w.cell? ⟨g, o + j * 5 + 4, none⟩ = some (.int .i64 x.col)
theorem holdsT_own {w : World} {B : Nat} {T : TypeId} {v : Value} {l : List Tk} (h : w.ownsRow B T 5 v l.length (cellsT l)) : HoldsT w v l := by
 rcases h.2 with ⟨h1, h2⟩ | ⟨g, cap, cur, h1, h2, h3, h4, _⟩
 ·exact .inl ⟨h1, List.length_eq_zero_iff.1 h2⟩
 ·refine .inr ⟨g, 0, cap, h1, h4, fun j x hx => ?_⟩
  have hc := h.cells (g := g) (by rw [h1]; rfl)
  obtain ⟨a0, a1, a2, a3, a4⟩ := cellsT_at l j x hx
  have f : ∀ i u, (cellsT l)[i]? = some u → w.cell? ⟨g, i, none⟩ = some u := fun i u hu => by
   have := hc i u hu
   rw [Addr.add_lit, Nat.zero_add] at this
   exact this
  rw [Nat.zero_add, Nat.mul_comm]
  exact ⟨f _ _ a0, f _ _ a1, f _ _ a2, f _ _ a3, f _ _ a4⟩
theorem HoldsT.below {w u : World} {v : Value} {l : List Tk} (h : HoldsT w v l) (hb : Below w.heap.size w u) : HoldsT u v l := by
 rcases h with h | ⟨g, o, cap, e, hc, h⟩
 ·exact .inl h
 ·exact .inr ⟨g, o, cap, e, hc, fun j x hx => by obtain ⟨a0, a1, a2, a3, a4⟩ := h j x hx; exact ⟨kc hb a0, kc hb a1, kc hb a2, kc hb a3, kc hb a4⟩⟩
theorem HoldsT.form {w : World} {v : Value} {l : List Tk} (h : HoldsT w v l) : ∃ p c, v = .slice p l.length c := by
 rcases h with ⟨rfl, rfl⟩ | ⟨g, o, cap, rfl, _⟩
 ·exact ⟨none, 0, rfl⟩
 ·exact ⟨_, cap, rfl⟩
end Go.Proofs.YtjcmblbnbpikfaaGreatDoor
