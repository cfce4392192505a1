/-
  PolicyOne: a policy of one span more.
-/
import Derived.Test.YtjcmblbnbpikfaaDoorPlace
set_option linter.unusedSimpArgs false
set_option linter.unusedVariables false
namespace Go.Proofs.YtjcmblbnbpikfaaDoor
open Go.RowKit Go.PlainAid

def oneP (p : Pol) (x : Sp) (sink : Bool) : Pol := if sink then ⟨(sortP p).s, (sortP p).k ++ [x], p.d, p.t⟩ else ⟨(sortP p).s ++ [x], (sortP p).k, p.d, p.t⟩
theorem addM_vals (x : Mk) (l : List Mk) : addM x l = 0 ∨ addM x l = 10 ∨ addM x l = 16 ∨ addM x l = 15 ∨ addM x l = 18 := by
  have hc : ∀ (l : List Mk) (e : Int), (e = 0 ∨ e = 15) → clashR x e l = 0 ∨ clashR x e l = 16 ∨ clashR x e l = 15 := by
    intro l
    induction l with
    | nil => intro e h; unfold clashR; rcases h with rfl | rfl <;> simp
    | cons y r ih =>
      intro e h
      unfold clashR
      split
      · split
        · exact .inr (.inl rfl)
        · exact ih 15 (.inr rfl)
      · exact ih e h
  unfold addM
  split
  · exact .inr (.inl rfl)
  · split
    · exact .inr (.inr (.inr (.inr rfl)))
    · rcases hc l 0 (.inl rfl) with h | h | h
      · exact .inl h
      · exact .inr (.inr (.inl h))
      · exact .inr (.inr (.inr (.inl h)))
theorem chkR_vals : ∀ (l acc : List Mk), chkR acc l = 0 ∨ chkR acc l = 10 ∨ chkR acc l = 16 ∨ chkR acc l = 15 ∨ chkR acc l = 18
  | [], acc => .inl rfl
  | x :: r, acc => by
    unfold chkR
    split
    · exact chkR_vals r _
    · exact addM_vals x acc
theorem check_vals (p : Pol) : checkM p = 0 ∨ checkM p = 10 ∨ checkM p = 16 ∨ checkM p = 15 ∨ checkM p = 18 := by
  unfold checkM
  split
  · split
    · exact .inl rfl
    · exact .inr (.inl rfl)
  · exact chkR_vals _ _
theorem oneP_bits {p : Pol} {x : Sp} {sink : Bool} (h : Bits p) (hx : 0 ≤ x.b ∧ x.b ≤ 255) : Bits (oneP p x sink) := by
  have hs := h.sort
  unfold oneP
  split
  · refine ⟨hs.1, fun y hy => ?_⟩
    rcases List.mem_append.1 hy with hy | hy
    · exact hs.2 y hy
    · rw [List.mem_singleton.1 hy]; exact hx
  · refine ⟨fun y hy => ?_, hs.2⟩
    rcases List.mem_append.1 hy with hy | hy
    · exact hs.1 y hy
    · rw [List.mem_singleton.1 hy]; exact hx
theorem sortS_mem' {l : List Sp} {x : Sp} (h : x ∈ l) : x ∈ sortS l := (sortS_perm l).mem_iff.2 h
/-- Whether a span is among the first k of a list. -/
def isIn (x : Sp) (l : List Sp) (k : Nat) : Bool := (l.take k).any (fun y => decide (y = x))
theorem isIn_step {x : Sp} {l : List Sp} {k : Nat} (h : k < l.length) : isIn x l (k + 1) = (isIn x l k || decide (l[k] = x)) := by
  unfold isIn
  rw [List.take_succ_eq_append_getElem h, List.any_append]
  simp
theorem isIn_all {x : Sp} {l : List Sp} {k : Nat} (hk : l.length ≤ k) (h : x ∈ l) : isIn x l k = true := by
  unfold isIn
  rw [List.take_of_length_le hk, List.any_eq_true]
  exact ⟨x, h, by simp⟩
end Go.Proofs.YtjcmblbnbpikfaaDoor
