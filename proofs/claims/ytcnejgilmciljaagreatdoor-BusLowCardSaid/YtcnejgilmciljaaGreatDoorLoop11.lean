/-
  What the laws' loops keep: both ports, apart, above what was there.
-/
import Derived.Test.YtcnejgilmciljaaGreatDoorDoes11
import Derived.Test.YtcnejgilmciljaaGreatDoorSame11
set_option linter.unusedSimpArgs false
set_option linter.unusedVariables false
namespace Go.Proofs.YtcnejgilmciljaaGreatDoor
open Go.RowKit Go.PlainAid

structure LoopI (N : Nat) (W0 : World) (pb rb : Nat) (S : Po) (F G : Nat → Prop) (x y a b c d : Value) (w : World) : Prop where
  both : Both pb rb S F G x y a b c d w
  fit : Fit S
  bel : Below N W0 w
  lowF : ∀ k, F k → N ≤ k
  lowD : ∀ k, footD rb S a b c d k → N ≤ k
section
variable {N pb rb : Nat} {S S' : Po} {F G F' G' : Nat → Prop} {x y a b c d x' y' a' b' c' d' : Value} {W0 w W u v : World}
theorem LoopI.below (h : LoopI N W0 pb rb S F G x y a b c d w) (hN : N ≤ W0.heap.size) (hb : Below w.heap.size w u) : LoopI N W0 pb rb S F G x y a b c d u :=
  ⟨h.both.below hb, h.fit, h.bel.trans (hb.mono (Nat.le_trans hN h.bel.size)), h.lowF, h.lowD⟩
theorem LoopI.step (h : LoopI N W0 pb rb S F G x y a b c d w) (hN : N ≤ W0.heap.size) (hf : Fit S') (hb : Both pb rb S' F' G' x' y' a' b' c' d' u) (hs : StepQ rb F G (rD S a b c d) F' G' (rD S' a' b' c' d') w u) : LoopI N W0 pb rb S' F' G' x' y' a' b' c' d' u := by
  have hz := h.bel.size
  refine ⟨hb, hf, ?_, fun k hk => (hs.f k hk).elim (h.lowF k) (fun h1 => by omega), fun k hk => (hs.rq.ft k hk).elim (h.lowD k) (fun h1 => by omega)⟩
  exact Fr.toBelow h.bel hs.fr (fun k hk => hk.elim (h.lowF k) (h.lowD k)) hN
/-- A new block of the document's. -/
theorem dp_new {lp ls : List Int} (hx : HoldsW bE 1 W x lp) (hy : HoldsW bE 1 W y ls) (T : TypeId) :
    Dp W.heap.size ⟨lp, ls, [], [], [], []⟩ x y (.slice none 0 0) (.slice none 0 0) (.slice none 0 0) (.slice none 0 0) (W.alloc (.cells #[x, y, .slice none 0 0, .slice none 0 0, .slice none 0 0, .slice none 0 0] T)) ∧
    (∀ k, footD W.heap.size ⟨lp, ls, [], [], [], []⟩ (.slice none 0 0) (.slice none 0 0) (.slice none 0 0) (.slice none 0 0) k → k = W.heap.size) := by
  have hw : Below W.heap.size W (W.alloc (.cells #[x, y, .slice none 0 0, .slice none 0 0, .slice none 0 0, .slice none 0 0] T)) := (Below.refl _ _).alloc (Nat.le_refl _) _
  have hcell : ∀ i u, (#[x, y, .slice none 0 0, .slice none 0 0, .slice none 0 0, .slice none 0 0] : Array Value)[i]? = some u → (W.alloc (.cells #[x, y, .slice none 0 0, .slice none 0 0, .slice none 0 0, .slice none 0 0] T)).cell? ⟨W.heap.size, i, none⟩ = some u := fun i u hu => by
    rw [cell_of_row _ _ _ _ _ _ (heap_alloc_new W (.cells #[x, y, .slice none 0 0, .slice none 0 0, .slice none 0 0, .slice none 0 0] T))]; exact hu
  have hfr : ∀ i, (W.alloc (.cells #[x, y, .slice none 0 0, .slice none 0 0, .slice none 0 0, .slice none 0 0] T)).frozen? ⟨W.heap.size, i, none⟩ = false := fun i => frozen_of_row _ _ _ _ _ (heap_alloc_new W (.cells #[x, y, .slice none 0 0, .slice none 0 0, .slice none 0 0, .slice none 0 0] T))
  have hfoot : ∀ k, footD W.heap.size ⟨lp, ls, [], [], [], []⟩ (.slice none 0 0) (.slice none 0 0) (.slice none 0 0) (.slice none 0 0) k → k = W.heap.size := fun k hk => by
    rcases hk with rfl | ⟨r, hr, hk⟩
    · rfl
    · simp only [rD, List.mem_cons, List.mem_nil_iff, or_false] at hr
      rcases hr with rfl | rfl | rfl | rfl <;> simp [Value.ownBlock] at hk
  refine ⟨⟨⟨by simp, fun i r hr => ?_, fun i r hr => ?_, fun i j r s hr hs hij => ?_⟩, ⟨hcell 0 _ rfl, hfr 0, hx.below hw, fun hl k hk hf => ?_⟩, ⟨hcell 1 _ rfl, hfr 1, hy.below hw, fun hl k hk hf => ?_⟩⟩, hfoot⟩
  · match i, hr with
    | 0, hr => cases hr; exact ⟨hcell 2 _ rfl, hfr 2⟩
    | 1, hr => cases hr; exact ⟨hcell 3 _ rfl, hfr 3⟩
    | 2, hr => cases hr; exact ⟨hcell 4 _ rfl, hfr 4⟩
    | 3, hr => cases hr; exact ⟨hcell 5 _ rfl, hfr 5⟩
    | n + 4, hr => simp [rD] at hr
  · match i, hr with
    | 0, hr => cases hr; exact ⟨World.ownsRow_nil _ _ _ _, by simp [Value.ownBlock]⟩
    | 1, hr => cases hr; exact ⟨World.ownsRow_nil _ _ _ _, by simp [Value.ownBlock]⟩
    | 2, hr => cases hr; exact ⟨World.ownsRow_nil _ _ _ _, by simp [Value.ownBlock]⟩
    | 3, hr => cases hr; exact ⟨World.ownsRow_nil _ _ _ _, by simp [Value.ownBlock]⟩
    | n + 4, hr => simp [rD] at hr
  · have hoff : ∀ (i : Nat) (r : Rw), (rD ⟨lp, ls, [], [], [], []⟩ (.slice none 0 0) (.slice none 0 0) (.slice none 0 0) (.slice none 0 0))[i]? = some r → r.off = i + 2 ∧ r.v = .slice none 0 0 := fun i r hr => by
      match i, hr with
      | 0, hr => cases hr; exact ⟨rfl, rfl⟩
      | 1, hr => cases hr; exact ⟨rfl, rfl⟩
      | 2, hr => cases hr; exact ⟨rfl, rfl⟩
      | 3, hr => cases hr; exact ⟨rfl, rfl⟩
      | n + 4, hr => simp [rD] at hr
    have h1 := hoff i r hr
    have h2 := hoff j s hs
    refine ⟨by omega, fun k hk => ?_⟩
    rw [h1.2] at hk
    simp [Value.ownBlock] at hk
  · have h1 := hfoot k hf
    have h2 := holds_old hx bE_len (by omega) hl k hk
    omega
  · have h1 := hfoot k hf
    have h2 := holds_old hy bE_len (by omega) hl k hk
    omega
/-- Where both begin. -/
theorem loop_new {lp ls : List Int} (hP : PO pb ⟨lp, ls, [], [], [], []⟩ F G W) (hf : Fit ⟨lp, ls, [], [], [], []⟩) (hB : Below N W0 W) (hN : N ≤ W0.heap.size) (hG : ∀ k, G k → N ≤ k) (hx : HoldsW bE 1 W x lp) (hy : HoldsW bE 1 W y ls)
    (hxl : lp ≠ [] → ∀ k, x.ownBlock = some k → k < N) (hyl : ls ≠ [] → ∀ k, y.ownBlock = some k → k < N) (T : TypeId) :
    LoopI N W0 pb W.heap.size ⟨lp, ls, [], [], [], []⟩ F G x y (.slice none 0 0) (.slice none 0 0) (.slice none 0 0) (.slice none 0 0) (W.alloc (.cells #[x, y, .slice none 0 0, .slice none 0 0, .slice none 0 0, .slice none 0 0] T)) := by
  obtain ⟨h1, h2⟩ := dp_new hx hy T
  have hz := hB.size
  have hw : Below W.heap.size W (W.alloc (.cells #[x, y, .slice none 0 0, .slice none 0 0, .slice none 0 0, .slice none 0 0] T)) := (Below.refl _ _).alloc (Nat.le_refl _) _
  have hlt := (PO.frm _ _).lt hP
  have hsub := (PO.frm _ _).sub hP
  refine ⟨⟨(PO.frm _ _).below hP hw, h1, ⟨fun k hk hg => ?_, fun k hk hg => ?_⟩⟩, hf, hB.alloc (Nat.le_trans hN hz) _, fun k hk => hG k (hsub k hk), fun k hk => by have := h2 k hk; omega⟩
  · have hkl := hlt k (hsub k hk)
    have hkN := hG k (hsub k hk)
    rcases hg with hg | ⟨e1, e2⟩ | ⟨e1, e2⟩
    · have := h2 k hg; omega
    · have := hxl (some_iff.1 e1) k e2; omega
    · have := hyl (some_iff.1 e1) k e2; omega
  · have := h2 k hk
    have := hlt k hg
    omega
end
theorem fit_nil : Fit ⟨[], [], [], [], [], []⟩ := ⟨by decide, by decide, by decide, by decide, by decide, rfl⟩
end Go.Proofs.YtcnejgilmciljaaGreatDoor
