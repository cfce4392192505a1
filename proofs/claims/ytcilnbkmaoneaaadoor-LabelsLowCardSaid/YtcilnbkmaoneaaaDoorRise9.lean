/-
  Addresses with secret bits, rising: where the law stands in the sorted spans behind so many of them; the example's.
-/
import Derived.Test.YtcilnbkmaoneaaaDoorSpan9
set_option linter.unusedSimpArgs false
set_option linter.unusedVariables false
namespace Go.Proofs.YtcilnbkmaoneaaaDoor
open Go.RowKit Go.PlainAid

/-- An address that has bits. -/
abbrev AdB (S : Int → Int) := { k : Nat // k < 65536 ∧ ¬ S (k : Int) = 0 }
abbrev encB (S : Int → Int) (x : AdB S) : Array Value := #[.int .i64 ((x.1 : Nat) : Int), .int .u8 (S (x.1 : Int))]
open Classical in
/-- Those below k, rising. -/
noncomputable def upB (S : Int → Int) : Nat → List (AdB S)
  | 0 => []
  | k + 1 => if h : k < 65536 ∧ ¬ S (k : Int) = 0 then upB S k ++ [⟨k, h⟩] else upB S k
theorem upB_yes (S : Int → Int) (k : Nat) (h : k < 65536 ∧ ¬ S (k : Int) = 0) : upB S (k + 1) = upB S k ++ [⟨k, h⟩] := by
  conv => lhs; unfold upB
  rw [dif_pos h]
theorem upB_no (S : Int → Int) (k : Nat) (h : S (k : Int) = 0) : upB S (k + 1) = upB S k := by
  conv => lhs; unfold upB
  rw [dif_neg (by rw [h]; simp)]
theorem upB_len (S : Int → Int) : ∀ k, (upB S k).length ≤ k
  | 0 => by simp [upB]
  | k + 1 => by
    have := upB_len S k
    unfold upB
    split
    · simp; omega
    · omega
/-- One address more: whether it is the next one, the span, the next address. -/
def stepT (l : List Sp) (s : Bool × Nat × Int) (a b : Int) : Bool × Nat × Int :=
  if s.2.1 < l.length ∧ a = s.2.2 ∧ b = (l[s.2.1]!).b then
    if (l[s.2.1]!).t < s.2.2 + 1 then (s.1, s.2.1 + 1, if s.2.1 + 1 < l.length then (l[s.2.1 + 1]!).f else s.2.2 + 1) else (s.1, s.2.1, s.2.2 + 1)
  else (false, s.2.1, s.2.2)
def firstT (l : List Sp) : Int := if 0 < l.length then (l[0]!).f else 0
def stT (S : Int → Int) (l : List Sp) (pre : List (AdB S)) : Bool × Nat × Int := pre.foldl (fun s x => stepT l s ((x.1 : Nat) : Int) (S (x.1 : Int))) (true, 0, firstT l)
theorem stT_snoc (S : Int → Int) (l : List Sp) (pre : List (AdB S)) (x : AdB S) : stT S l (pre ++ [x]) = stepT l (stT S l pre) ((x.1 : Nat) : Int) (S (x.1 : Int)) := by unfold stT; rw [List.foldl_append]; rfl
structure InvT (l : List Sp) (k : Nat) (s : Bool × Nat × Int) : Prop where
  ok : s.1 = true
  le : s.2.1 ≤ l.length
  past : ∀ j, j < s.2.1 → (l[j]!).t < k
  nx : s.2.1 < l.length → (((k : Int) ≤ (l[s.2.1]!).f ∧ s.2.2 = (l[s.2.1]!).f) ∨ ((l[s.2.1]!).f < (k : Int) ∧ s.2.2 = (k : Int))) ∧ s.2.2 ≤ (l[s.2.1]!).t
theorem invT_up {S : Int → Int} {l : List Sp} (hs : SortL (fun y : Sp => y.f) l) (hg : Gd l) (hS : ∀ k, S k = bitsR l k) : ∀ k : Nat, k ≤ 65536 → InvT l k (stT S l (upB S k))
  | 0, _ => by
    refine ⟨rfl, Nat.zero_le _, fun j hj => absurd hj (Nat.not_lt_zero _), fun h => ?_⟩
    have h0 : 0 < l.length := h
    have hl := hg.lies l[0] (List.getElem_mem h0)
    have e : firstT l = l[0].f := by unfold firstT; rw [if_pos h0, getElem!_pos l 0 h0]
    show (((0 : Nat) : Int) ≤ (l[0]!).f ∧ firstT l = (l[0]!).f ∨ _) ∧ firstT l ≤ (l[0]!).t
    rw [e, getElem!_pos l 0 h0]
    exact ⟨.inl ⟨hl.1, rfl⟩, hl.2.1⟩
  | k + 1, hk => by
    have ih := invT_up hs hg hS k (by omega)
    by_cases h : S (k : Int) = 0
    · rw [upB_no S k h]
      refine ⟨ih.ok, ih.le, fun j hj => by have := ih.past j hj; omega, fun hi => ?_⟩
      obtain ⟨h1, h2⟩ := ih.nx hi
      have hn : onB l[(stT S l (upB S k)).2.1] (k : Int) = false := by
        rcases bitsR_ways l (k : Int) with ⟨_, h3⟩ | ⟨y, h3, h4, h5⟩
        · exact h3 _ (List.getElem_mem hi)
        · exact absurd (by rw [← hS, h] at h5; exact h5.symm) (hg.bits y h3)
      rw [onB_not] at hn
      rw [getElem!_pos l _ hi] at h1 h2 ⊢
      generalize l[(stT S l (upB S k)).2.1] = x at *
      generalize (stT S l (upB S k)).2.2 = nx at *
      omega
    · rw [upB_yes S k ⟨by omega, h⟩, stT_snoc]
      obtain ⟨i, hi⟩ : ∃ i, (stT S l (upB S k)).2.1 = i := ⟨_, rfl⟩
      obtain ⟨nx, hnx⟩ : ∃ i, (stT S l (upB S k)).2.2 = i := ⟨_, rfl⟩
      have a1 := ih.ok
      have a2 := ih.le
      have a3 := ih.past
      have a4 := ih.nx
      rw [hi] at a2 a3 a4
      rw [hnx] at a4
      obtain ⟨y, h3, h4, h5⟩ : ∃ y ∈ l, onB y (k : Int) = true ∧ S (k : Int) = y.b := by
        rcases bitsR_ways l (k : Int) with ⟨h3, _⟩ | ⟨y, h3, h4, h5⟩
        · exact absurd ((hS _).trans h3) h
        · exact ⟨y, h3, h4, (hS _).trans h5⟩
      obtain ⟨j, hj, rfl⟩ := List.mem_iff_getElem.1 h3
      rw [onB_iff] at h4
      have hij : i ≤ j := by
        by_cases hc : j < i
        · have := a3 j hc
          rw [getElem!_pos l j hj] at this
          omega
        · omega
      have hil : i < l.length := by omega
      obtain ⟨b1, b2⟩ := a4 hil
      rw [getElem!_pos l i hil] at b1 b2
      obtain rfl : i = j := by
        by_cases hc : i < j
        · have := sorted_apart hs hg hc hj
          omega
        · omega
      have e0 : nx = (k : Int) := by omega
      have hst : stepT l (stT S l (upB S k)) (k : Int) (S (k : Int)) = if l[i].t < (k : Int) + 1 then (true, i + 1, if i + 1 < l.length then (l[i + 1]!).f else (k : Int) + 1) else (true, i, (k : Int) + 1) := by
        unfold stepT
        rw [hi, hnx, a1, e0, if_pos ⟨hil, rfl, by rw [getElem!_pos l i hil]; exact h5⟩, getElem!_pos l i hil]
      rw [hst]
      by_cases ht : l[i].t < (k : Int) + 1
      · rw [if_pos ht]
        refine ⟨rfl, hil, fun j hj2 => ?_, fun hi2 => ?_⟩
        · by_cases hc : j < i
          · have := a3 j hc; omega
          · obtain rfl : j = i := by have : j < i + 1 := hj2; omega
            rw [getElem!_pos l j hil]; omega
        · have hi3 : i + 1 < l.length := hi2
          have h6 := sorted_apart hs hg (show i < i + 1 by omega) hi3
          have h7 := hg.lies _ (List.getElem_mem hi3)
          show ((((k + 1 : Nat) : Int) ≤ (l[i + 1]!).f ∧ (if i + 1 < l.length then (l[i + 1]!).f else (k : Int) + 1) = (l[i + 1]!).f) ∨ _) ∧ (if i + 1 < l.length then (l[i + 1]!).f else (k : Int) + 1) ≤ (l[i + 1]!).t
          rw [if_pos hi3, getElem!_pos l _ hi3]
          exact ⟨.inl ⟨by omega, rfl⟩, h7.2.1⟩
      · rw [if_neg ht]
        refine ⟨rfl, a2, fun j hj2 => by have := a3 j hj2; omega, fun hi2 => ?_⟩
        show ((((k + 1 : Nat) : Int) ≤ (l[i]!).f ∧ (k : Int) + 1 = (l[i]!).f) ∨ ((l[i]!).f < ((k + 1 : Nat) : Int) ∧ (k : Int) + 1 = ((k + 1 : Nat) : Int))) ∧ (k : Int) + 1 ≤ (l[i]!).t
        rw [getElem!_pos l _ hil]
        omega
/-- Behind all of them the law stands behind the last span. -/
theorem stT_end {S : Int → Int} {l : List Sp} (hs : SortL (fun y : Sp => y.f) l) (hg : Gd l) (hS : ∀ k, S k = bitsR l k) : (stT S l (upB S 65536)).2.1 = l.length := by
  have h := invT_up hs hg hS 65536 (Nat.le_refl _)
  have h1 := h.le
  by_cases hc : (stT S l (upB S 65536)).2.1 < l.length
  · obtain ⟨h2, h3⟩ := h.nx hc
    have h4 := hg.lies _ (List.getElem_mem hc)
    rw [getElem!_pos l _ hc] at h2 h3
    omega
  · omega
theorem stT_le {S : Int → Int} {l : List Sp} : ∀ pre, (stT S l pre).1 = true → (stT S l pre).2.1 ≤ l.length := by
  have h : ∀ (pre : List (AdB S)) s, s.2.1 ≤ l.length → (pre.foldl (fun s x => stepT l s ((x.1 : Nat) : Int) (S (x.1 : Int))) s).2.1 ≤ l.length := by
    intro pre
    induction pre with
    | nil => exact fun s h => h
    | cons x r ih =>
      intro s hs
      refine ih _ ?_
      show (stepT l s ((x.1 : Nat) : Int) (S (x.1 : Int))).2.1 ≤ l.length
      unfold stepT
      split
      · rename_i h1
        split
        · exact h1.1
        · exact hs
      · exact hs
  exact fun pre _ => h pre _ (Nat.zero_le _)
/-! The example's. -/
def exS : List Sp := [⟨16, 17, 3⟩]
def stE (S : Int → Int) (pre : List (AdB S)) : Bool × Nat := pre.foldl (fun s x => (s.1 && decide (((x.1 : Nat) : Int) = 16 + (s.2 : Int)) && decide (S (x.1 : Int) = 3) && decide (s.2 ≤ 1), s.2 + 1)) (true, 0)
theorem stE_snoc (S : Int → Int) (pre : List (AdB S)) (x : AdB S) : stE S (pre ++ [x]) = ((stE S pre).1 && decide (((x.1 : Nat) : Int) = 16 + ((stE S pre).2 : Int)) && decide (S (x.1 : Int) = 3) && decide ((stE S pre).2 ≤ 1), (stE S pre).2 + 1) := by unfold stE; rw [List.foldl_append]; rfl
theorem stE_up {S : Int → Int} (hS : ∀ k, S k = bitsR exS k) : ∀ k : Nat, k ≤ 65536 → stE S (upB S k) = (true, if k ≤ 16 then 0 else if k = 17 then 1 else 2)
  | 0, _ => rfl
  | k + 1, hk => by
    have ih := stE_up hS k (by omega)
    have hv : S (k : Int) = if 16 ≤ k ∧ k ≤ 17 then 3 else 0 := by
      rw [hS]
      by_cases h : 16 ≤ k ∧ k ≤ 17
      · rw [if_pos h]
        unfold exS bitsR
        rw [if_pos (onB_iff.2 (by dsimp only; omega))]
      · rw [if_neg h]
        unfold exS bitsR
        rw [if_neg (fun h2 => h (by have := onB_iff.1 h2; dsimp only at this; omega))]
        rfl
    by_cases h : 16 ≤ k ∧ k ≤ 17
    · rw [if_pos h] at hv
      rw [upB_yes S k ⟨by omega, by show ¬ S (k : Int) = 0; rw [hv]; decide⟩, stE_snoc, ih]
      have e : decide (S (((⟨k, ⟨by omega, by show ¬ S (k : Int) = 0; rw [hv]; decide⟩⟩ : AdB S).1 : Nat) : Int) = 3) = true := decide_eq_true hv
      rw [e]
      dsimp only
      rcases (show k = 16 ∨ k = 17 by omega) with rfl | rfl <;> rfl
    · rw [if_neg h] at hv
      rw [upB_no S k hv, ih]
      congr 1
      split
      · rw [if_pos (by omega)]
      · split
        · omega
        · rw [if_neg (by omega), if_neg (by omega)]
end Go.Proofs.YtcilnbkmaoneaaaDoor
