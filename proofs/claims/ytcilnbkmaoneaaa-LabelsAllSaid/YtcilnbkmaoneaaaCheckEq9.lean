/-
  What is wrong with a policy, as the program and the document tell it, is the same (policy's DocEq).
-/
import Derived.Test.YtcilnbkmaoneaaaFew9
import Derived.Test.YtcilnbkmaoneaaaDoc7
set_option linter.unusedSimpArgs false
set_option linter.unusedVariables false
namespace Go.Proofs.Ytcilnbkmaoneaaa
open Go.RowKit Go.PlainAid

theorem clashR_any (x : Mk) : ∀ (l : List Mk) (e : Int), clashR x e l = if l.any (fun y => meetB x.s y.s && y.k == x.k) then 16 else if l.any (fun y => meetB x.s y.s) then 15 else e
  | [], e => rfl
  | y :: r, e => by
    unfold clashR
    rw [List.any_cons, List.any_cons]
    cases hm : meetB x.s y.s with
    | false =>
      rw [if_neg (by simp), clashR_any x r e]
      simp
    | true =>
      rw [if_pos rfl]
      by_cases hk : x.k = y.k
      · rw [if_pos hk]
        have : (y.k == x.k) = true := by simp [hk]
        rw [this]
        simp
      · rw [if_neg hk, clashR_any x r 15]
        have : (y.k == x.k) = false := by simpa using fun h => hk h.symm
        rw [this]
        simp only [Bool.true_and, Bool.false_or, Bool.true_or, if_true]
        split
        · rfl
        · split <;> rfl
theorem any_map (k K : Bool) (x : Sp) : ∀ l : List Sp, (l.map fun y => (⟨y, k⟩ : Mk)).any (fun y => meetB x y.s && y.k == K) = (l.any (meetB x) && k == K)
  | [] => by simp
  | y :: r => by
    rw [List.map_cons, List.any_cons, List.any_cons, any_map k K x r]
    cases meetB x y <;> cases (k == K) <;> cases r.any (meetB x) <;> rfl
theorem any_map' (k : Bool) (x : Sp) : ∀ l : List Sp, (l.map fun y => (⟨y, k⟩ : Mk)).any (fun y => meetB x y.s) = l.any (meetB x)
  | [] => rfl
  | y :: r => by rw [List.map_cons, List.any_cons, List.any_cons, any_map' k x r]
/-- One more span, of either kind. -/
theorem addM_doc (x : Sp) (k : Bool) (own other : List Sp) (hb : 0 ≤ x.b ∧ x.b ≤ 255) (hl : own.length + other.length ≤ 64) :
    addM ⟨x, k⟩ (other.map (fun y => ⟨y, !k⟩) ++ own.map (fun y => ⟨y, k⟩)) = if liesB x k = false ∨ x.b < 1 ∨ 255 < x.b then 10 else addD x own other := by
  unfold addM
  dsimp only
  by_cases h1 : liesB x k = false ∨ x.b = 0
  · rw [if_pos h1, if_pos (by rcases h1 with h | h; exact .inl h; exact .inr (.inl (by omega)))]
  · have hn : ¬ (liesB x k = false ∨ x.b < 1 ∨ 255 < x.b) := by
      rintro (h | h | h)
      · exact h1 (.inl h)
      · exact h1 (.inr (by omega))
      · omega
    rw [if_neg h1, if_neg hn]
    unfold addD
    have e : (other.map (fun y => (⟨y, !k⟩ : Mk)) ++ own.map (fun y => (⟨y, k⟩ : Mk))).length = own.length + other.length := by rw [List.length_append, List.length_map, List.length_map]; omega
    rw [e]
    by_cases h2 : own.length + other.length = 64
    · rw [if_pos h2, if_pos (by omega)]
    · rw [if_neg h2, if_neg (by omega), clashR_any]
      dsimp only
      rw [List.any_append, List.any_append, any_map, any_map, any_map', any_map']
      have k1 : ((!k) == k) = false := by cases k <;> rfl
      have k2 : (k == k) = true := by cases k <;> rfl
      rw [k1, k2]
      cases own.any (meetB x) <;> cases other.any (meetB x) <;> rfl
theorem chkR_append : ∀ (a b acc : List Mk), chkR acc (a ++ b) = if chkR acc a ≠ 0 then chkR acc a else chkR (acc ++ a) b
  | [], b, acc => by rw [List.nil_append, List.append_nil]; rfl
  | x :: r, b, acc => by
    rw [List.cons_append, chkR, chkR]
    by_cases h : addM x acc = 0
    · rw [if_pos h, if_pos h, chkR_append r b (acc ++ [x]), List.append_assoc]
      rfl
    · rw [if_neg h, if_neg h, if_pos h]
theorem chkR_doc (k : Bool) (other : List Sp) : ∀ (l own : List Sp), (∀ x ∈ l, 0 ≤ x.b ∧ x.b ≤ 255) → own.length + other.length ≤ 64 → chkR (other.map (fun y => ⟨y, !k⟩) ++ own.map (fun y => ⟨y, k⟩)) (l.map fun y => ⟨y, k⟩) = chkD k own other l
  | [], own, _, _ => rfl
  | x :: r, own, hb, hl => by
    have ha := addM_doc x k own other (hb x (by simp)) hl
    rw [List.map_cons, chkR, chkD, ha]
    by_cases h1 : liesB x k = false ∨ x.b < 1 ∨ 255 < x.b
    · rw [if_pos h1, if_pos h1, if_neg (by decide)]
    · rw [if_neg h1, if_neg h1]
      by_cases h2 : addD x own other = 0
      · rw [if_pos h2, if_neg (by rw [h2]; simp)]
        have h3 : own.length + other.length < 64 := by
          unfold addD at h2
          split at h2
          · cases h2
          · omega
        have ih := chkR_doc k other r (own ++ [x]) (fun y hy => hb y (by simp [hy])) (by rw [List.length_append]; simp only [List.length_cons, List.length_nil]; omega)
        rw [List.map_append, ← List.append_assoc] at ih
        exact ih
      · rw [if_neg h2, if_pos h2]
theorem chkD_len (k : Bool) (other : List Sp) : ∀ (l own : List Sp), chkD k own other l = 0 → own.length + other.length ≤ 64 → own.length + l.length + other.length ≤ 64
  | [], own, _, h => by simpa using h
  | x :: r, own, h, hl => by
    unfold chkD at h
    split at h
    · cases h
    · split at h
      · rename_i h2; exact absurd h h2
      · rename_i h2
        have h2 := Decidable.not_not.1 h2
        have h3 : own.length + other.length < 64 := by
          unfold addD at h2
          split at h2
          · cases h2
          · omega
        have := chkD_len k other r (own ++ [x]) h (by rw [List.length_append]; simp only [List.length_cons, List.length_nil]; omega)
        rw [List.length_append] at this
        simp only [List.length_cons, List.length_nil] at this ⊢
        omega
theorem check_eq {p : Pol} (hb : Bits p) : checkM p = checkD p := by
  unfold checkM checkD markS
  have h1 := chkR_doc false [] p.s [] hb.1 (by simp)
  simp only [List.map_nil, List.nil_append] at h1
  rw [chkR_append, h1, List.nil_append]
  by_cases h0 : chkD false [] [] p.s = 0
  · have hl := chkD_len false [] p.s [] h0 (by simp)
    have h2 := chkR_doc true p.s p.k [] hb.2 (by simp at hl ⊢; omega)
    simp only [List.map_nil, List.append_nil, Bool.not_true] at h2
    have e0 : (if chkD false [] [] p.s ≠ 0 then chkD false [] [] p.s else chkR (p.s.map fun x => (⟨x, false⟩ : Mk)) (p.k.map fun x => (⟨x, true⟩ : Mk))) = chkD true [] p.s p.k := by rw [if_neg (by rw [h0]; simp), h2]
    rw [e0, if_neg (show ¬ chkD false [] [] p.s ≠ 0 by rw [h0]; simp)]
    by_cases h3 : chkD true [] p.s p.k = 0
    · rw [if_pos h3, if_neg (show ¬ chkD true [] p.s p.k ≠ 0 by rw [h3]; simp)]
    · rw [if_neg h3, if_pos h3]
  · have e0 : (if chkD false [] [] p.s ≠ 0 then chkD false [] [] p.s else chkR (p.s.map fun x => (⟨x, false⟩ : Mk)) (p.k.map fun x => (⟨x, true⟩ : Mk))) = chkD false [] [] p.s := if_pos h0
    rw [e0, if_neg h0, if_pos h0]
end Go.Proofs.Ytcilnbkmaoneaaa
