/-
  Spans that may stand together, in whatever order (policy's Marks, without what it has of reading).
-/
import Derived.Test.YtcilnbkmaoneaaaDoorCheck
set_option linter.unusedSimpArgs false
set_option linter.unusedVariables false
namespace Go.Proofs.YtcilnbkmaoneaaaDoor
open Go.RowKit Go.PlainAid

/-- Spans that may stand together. -/
def okM (l : List Mk) : Prop := (∀ x ∈ l, liesB x.s x.k = true ∧ x.s.b ≠ 0) ∧ l.length ≤ 64 ∧ l.Pairwise (fun x y => meetB x.s y.s = false)
theorem meetB_symm {x y : Sp} (h : meetB x y = false) : meetB y x = false := by
  unfold meetB at h ⊢
  rw [Bool.and_comm]
  exact h
theorem clashR_zero (x : Mk) : ∀ (l : List Mk) (e : Int), clashR x e l = 0 ↔ e = 0 ∧ ∀ y ∈ l, meetB x.s y.s = false
  | [], e => ⟨fun h => ⟨h, fun y hy => by simp at hy⟩, fun h => h.1⟩
  | y :: r, e => by
    unfold clashR
    cases hm : meetB x.s y.s with
    | true =>
      rw [if_pos rfl]
      constructor
      · intro h
        split at h
        · cases h
        · have := ((clashR_zero x r 15).1 h).1; cases this
      · intro h
        have := h.2 y (by simp)
        rw [hm] at this; cases this
    | false =>
      rw [if_neg (by simp)]
      rw [clashR_zero x r e]
      exact ⟨fun h => ⟨h.1, fun z hz => by rcases List.mem_cons.1 hz with rfl | hz; exact hm; exact h.2 z hz⟩, fun h => ⟨h.1, fun z hz => h.2 z (by simp [hz])⟩⟩
theorem addM_zero (x : Mk) (l : List Mk) : addM x l = 0 ↔ (liesB x.s x.k = true ∧ x.s.b ≠ 0) ∧ l.length ≠ 64 ∧ ∀ y ∈ l, meetB x.s y.s = false := by
  unfold addM
  by_cases h1 : liesB x.s x.k = false ∨ x.s.b = 0
  · rw [if_pos h1]
    refine ⟨fun h => (by cases h), fun h => ?_⟩
    rcases h1 with h1 | h1
    · rw [h1] at h; cases h.1.1
    · exact absurd h1 h.1.2
  · rw [if_neg h1]
    have h2 : liesB x.s x.k = true ∧ x.s.b ≠ 0 := ⟨by cases hl : liesB x.s x.k; exact absurd (.inl hl) h1; rfl, fun e => h1 (.inr e)⟩
    by_cases h3 : l.length = 64
    · rw [if_pos h3]
      exact ⟨fun h => (by cases h), fun h => absurd h3 h.2.1⟩
    · rw [if_neg h3, clashR_zero]
      exact ⟨fun h => ⟨h2, h3, h.2⟩, fun h => ⟨rfl, h.2.2⟩⟩
theorem okM_snoc (l : List Mk) (x : Mk) : okM (l ++ [x]) ↔ okM l ∧ addM x l = 0 := by
  rw [addM_zero]
  unfold okM
  rw [List.pairwise_append]
  simp only [List.length_append, List.length_cons, List.length_nil, List.mem_append, List.mem_cons, List.not_mem_nil, or_false]
  constructor
  · rintro ⟨h1, h2, h3, _, h4⟩
    exact ⟨⟨fun y hy => h1 y (.inl hy), by omega, h3⟩, h1 x (.inr rfl), by omega, fun y hy => meetB_symm (h4 y hy x rfl)⟩
  · rintro ⟨⟨h1, h2, h3⟩, h4, h5, h6⟩
    refine ⟨fun y hy => ?_, by omega, h3, List.pairwise_singleton _ _, fun y hy z hz => ?_⟩
    · rcases hy with hy | rfl
      · exact h1 y hy
      · exact h4
    · subst hz; exact meetB_symm (h6 y hy)
theorem okM_left {a b : List Mk} (h : okM (a ++ b)) : okM a :=
  ⟨fun x hx => h.1 x (List.mem_append_left _ hx), by have := h.2.1; rw [List.length_append] at this; omega, (List.pairwise_append.1 h.2.2).1⟩
theorem okM_perm {a b : List Mk} (hp : a.Perm b) (h : okM a) : okM b :=
  ⟨fun x hx => h.1 x (hp.mem_iff.2 hx), by rw [← hp.length_eq]; exact h.2.1, (hp.pairwise_iff (fun hxy => meetB_symm hxy)).1 h.2.2⟩
theorem chkR_zero : ∀ (l acc : List Mk), okM acc → (chkR acc l = 0 ↔ okM (acc ++ l))
  | [], acc, h => by rw [List.append_nil]; exact ⟨fun _ => h, fun _ => rfl⟩
  | x :: r, acc, h => by
    have e : acc ++ x :: r = (acc ++ [x]) ++ r := by simp
    unfold chkR
    by_cases h0 : addM x acc = 0
    · rw [if_pos h0, chkR_zero r (acc ++ [x]) ((okM_snoc acc x).2 ⟨h, h0⟩), e]
    · rw [if_neg h0, e]
      exact ⟨fun h2 => absurd h2 h0, fun h2 => absurd ((okM_snoc acc x).1 (okM_left h2)).2 h0⟩
theorem okM_nil : okM [] := ⟨fun x h => by simp at h, by decide, List.Pairwise.nil⟩
theorem chk_zero (l : List Mk) : chkR [] l = 0 ↔ okM l := by have := chkR_zero l [] okM_nil; rwa [List.nil_append] at this
theorem check_zero (p : Pol) : checkM p = 0 ↔ okM (markS p) ∧ mayD p.d = true ∧ mayT p.t = true := by
  unfold checkM
  by_cases h : chkR [] (markS p) = 0
  · rw [if_pos h]
    cases hd : mayD p.d <;> cases ht : mayT p.t <;> simp [(chk_zero _).1 h]
  · rw [if_neg h]
    exact ⟨fun h2 => absurd h2 h, fun h2 => absurd ((chk_zero _).2 h2.1) h⟩
theorem insS_perm (x : Sp) (l : List Sp) : (insS x l).Perm (x :: l) := by
  unfold insS
  refine List.perm_middle.trans (List.Perm.cons x ?_)
  rw [List.takeWhile_append_dropWhile]
theorem sortA_perm : ∀ (l acc : List Sp), (sortA acc l).Perm (acc ++ l)
  | [], acc => by rw [List.append_nil]; exact List.Perm.refl _
  | x :: r, acc => by
    rw [sortA]
    refine (sortA_perm r (insS x acc)).trans ?_
    refine ((insS_perm x acc).append_right r).trans ?_
    exact (List.perm_middle (l₁ := acc) (a := x) (l₂ := r)).symm
theorem sortS_perm (l : List Sp) : (sortS l).Perm l := by have := sortA_perm l []; rwa [List.nil_append] at this
theorem markS_sort (p : Pol) : (markS (sortP p)).Perm (markS p) := by
  unfold markS sortP
  exact ((sortS_perm p.s).map _).append ((sortS_perm p.k).map _)
theorem check_sort {p : Pol} (h : checkM p = 0) : checkM (sortP p) = 0 := by
  rw [check_zero] at h ⊢
  exact ⟨okM_perm (markS_sort p).symm h.1, h.2⟩
theorem lies_range {x : Sp} {k : Bool} (h : liesB x k = true) : 0 ≤ x.f ∧ x.f ≤ x.t ∧ x.t ≤ 65535 := by
  unfold liesB at h
  simp only [Bool.and_eq_true, Bool.or_eq_true, decide_eq_true_eq] at h
  omega
end Go.Proofs.YtcilnbkmaoneaaaDoor
