/-
  The document's ports: Read, walked.
-/
import Derived.Test.YtcnejgilmciljaaDoorRef11
set_option linter.unusedSimpArgs false
set_option linter.unusedVariables false
namespace Go.Proofs.YtcnejgilmciljaaDoor
open Go.RowKit Go.PlainAid

theorem Hold.at0 {rb : Nat} {S : Po} {a b c d : Value} {w : World} (h : Hold rb (rD S a b c d) w) :
    (w.cell? ⟨rb, 2, none⟩ = some a ∧ w.ownsRow 0 5 1 a S.out.length (S.out.flatMap bE)) ∧ (w.cell? ⟨rb, 3, none⟩ = some b ∧ w.ownsRow 0 23 2 b S.kept.length (S.kept.flatMap kE)) ∧
    (w.cell? ⟨rb, 4, none⟩ = some c ∧ w.ownsRow 0 3 1 c S.cyc.length (S.cyc.flatMap cE)) ∧ w.cell? ⟨rb, 5, none⟩ = some d ∧ w.ownsRow 0 5 1 d S.told.length (S.told.flatMap bE) :=
  ⟨⟨(h.cell 0 _ rfl).1, (h.own 0 _ rfl).1⟩, ⟨(h.cell 1 _ rfl).1, (h.own 1 _ rfl).1⟩, ⟨(h.cell 2 _ rfl).1, (h.own 2 _ rfl).1⟩, (h.cell 3 _ rfl).1, (h.own 3 _ rfl).1⟩
/-- The last one of a row. -/
theorem row_last {α : Type} {enc : α → List Value} {k : Nat} (hk : ∀ x, (enc x).length = k) {w : World} {B : Nat} {T : TypeId} {v : Value} {l : List α} {m : Nat} (h : w.ownsRow B T k v l.length (l.flatMap enc)) (hm : l.length = m + 1) :
    ∃ g c, v = .slice (some ⟨g, 0, none⟩) (m + 1) c ∧ m < 9223372036854775807 ∧ ∀ i u, (enc (l[m]'(by omega)))[i]? = some u → w.cell? ⟨g, m * k + i, none⟩ = some u := by
  rcases h.2 with ⟨_, h2⟩ | ⟨g, cap, cur, rfl, _, _, h4, h5, _⟩
  · omega
  · refine ⟨g, cap, by rw [hm], by unfold maxLen at h5; omega, fun i u hu => ?_⟩
    have := h.cells (g := g) rfl (m * k + i) u (flat_at8 hk l m _ i u (List.getElem?_eq_getElem (by omega)) hu)
    rw [Addr.add_lit, Nat.zero_add] at this
    exact this
theorem holds_none {w : World} {p : Option Addr} {n c : Nat} {r : List Int} (h0 : n = 0) (hn : r.length = n) : HoldsW bE 1 w (.slice p n c) r := by
  subst h0
  exact .inl ⟨⟨_, _, rfl⟩, List.length_eq_zero_iff.1 hn⟩
theorem headD_tail {l : List Int} (h : l ≠ []) : ∃ x r, l = x :: r := by cases l with | nil => exact absurd rfl h | cons x r => exact ⟨x, r, rfl⟩
end Go.Proofs.YtcnejgilmciljaaDoor
