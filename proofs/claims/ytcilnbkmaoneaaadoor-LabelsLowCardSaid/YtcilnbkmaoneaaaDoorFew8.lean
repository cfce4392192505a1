/-
  Layer 8's laws: calls in memory; whether they are not too many.
-/
import Derived.Test.YtcilnbkmaoneaaaDoorLabel8
set_option linter.unusedSimpArgs false
set_option linter.unusedVariables false
namespace Go.Proofs.YtcilnbkmaoneaaaDoor
open Go.RowKit Go.PlainAid

/-- A call: which, where, up to where, a byte, bytes. -/
structure OpR where
  q : Int
  a : Int
  b : Int
  v : Int
  t : Int
  l : List Int
/-- A slice that holds these calls, each with its own bytes, all apart from blocks from N on. -/
def HoldsO (N : Nat) (w : World) (v : Value) (l : List OpR) : Prop :=
  ((∃ p c, v = .slice p 0 c) ∧ l = []) ∨ ∃ g o cap, v = .slice (some ⟨g, o, none⟩) l.length cap ∧ l.length ≤ cap ∧ g < N ∧ ∀ j (x : OpR), l[j]? = some x → ∃ lv, w.cell? ⟨g, o + j * 6, none⟩ = some (.int .i64 x.q) ∧ w.cell? ⟨g, o + j * 6 + 1, none⟩ = some (.int .i64 x.a) ∧ w.cell? ⟨g, o + j * 6 + 2, none⟩ = some (.int .i64 x.b) ∧ w.cell? ⟨g, o + j * 6 + 3, none⟩ = some (.int .u8 x.v) ∧ w.cell? ⟨g, o + j * 6 + 4, none⟩ = some (.int .u8 x.t) ∧ w.cell? ⟨g, o + j * 6 + 5, none⟩ = some lv ∧ HoldsB w lv x.l ∧ (0 < x.l.length → ∀ g', lv.ownBlock = some g' → g' < N)
theorem HoldsO.form {N : Nat} {w : World} {v : Value} {l : List OpR} (h : HoldsO N w v l) : ∃ p c, v = .slice p l.length c := by
  rcases h with ⟨⟨p, c, rfl⟩, rfl⟩ | ⟨g, o, cap, rfl, _⟩
  · exact ⟨p, c, rfl⟩
  · exact ⟨_, cap, rfl⟩
theorem HoldsO.below {N : Nat} {w u : World} {v : Value} {l : List OpR} (h : HoldsO N w v l) (hb : Below w.heap.size w u) : HoldsO N u v l := by
  rcases h with h | ⟨g, o, cap, e, hc, hg, h⟩
  · exact .inl h
  · exact .inr ⟨g, o, cap, e, hc, hg, fun j x hx => by
      obtain ⟨lv, a0, a1, a2, a3, a4, a5, a6, a7⟩ := h j x hx
      exact ⟨lv, kc hb a0, kc hb a1, kc hb a2, kc hb a3, kc hb a4, kc hb a5, a6.below hb, a7⟩⟩
def bigO (x : OpR) : Bool := decide ((40 : Int) < (x.l.length : Int)) || ((x.q == 1 && oneB x.a x.b) && decide (60 < x.b - x.a))
def fewO (l : List OpR) : Bool := l.all (fun x => !bigO x) && decide ((l.length : Int) ≤ 30)
end Go.Proofs.YtcilnbkmaoneaaaDoor
