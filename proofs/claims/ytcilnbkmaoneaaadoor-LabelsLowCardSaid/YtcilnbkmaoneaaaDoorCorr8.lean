/-
  Layer 8, mathematics: bytes by their addresses, as a function, beside the document's row.
-/
import Derived.Test.YtcilnbkmaoneaaaDoorFew8
set_option linter.unusedSimpArgs false
set_option linter.unusedVariables false
namespace Go.Proofs.YtcilnbkmaoneaaaDoor
open Go.RowKit Go.PlainAid

/-- Addresses that hold a byte. -/
def realB (a : Int) : Bool := ramB a || romB a
def setM (M : Int → Int × Int) (a : Int) (x : Int × Int) : Int → Int × Int := fun b => if b = a then x else M b
def loadM : (Int → Int × Int) → Int → List Int → Int → Int × Int
  | M, _, [] => M
  | M, a, b :: r => loadM (setM M a (b, 0)) (a + 1) r
def labelM : Nat → (Int → Int × Int) → Int → Int → Int → Int × Int
  | 0, M, _, _ => M
  | n + 1, M, a, t => labelM n (setM M a ((M a).1, t)) (a + 1) t
/-- The document's row tells these bytes. -/
def Corr (M : Int → Int × Int) (L : List Pt) : Prop := ∀ a, realB a = true → lastP L a = M a
theorem lastK_app (L : List Pt) (x : Pt) (a : Int) : ∀ k, k ≤ L.length → lastK (L ++ [x]) a k = lastK L a k
  | 0, _ => rfl
  | k + 1, h => by
    rw [lastK, lastK, List.getElem?_append_left (by omega), lastK_app L x a k (by omega)]
theorem lastP_snoc (L : List Pt) (x : Pt) (a : Int) : lastP (L ++ [x]) a = if x.a = a then (x.v, x.t) else lastP L a := by
  unfold lastP
  rw [List.length_append, List.length_cons, List.length_nil, Nat.zero_add, lastK, List.getElem?_append_right (Nat.le_refl _), Nat.sub_self]
  show (if x.a = a then (x.v, x.t) else lastK (L ++ [x]) a L.length) = _
  rw [lastK_app L x a _ (Nat.le_refl _)]
theorem corr_nil : Corr (fun _ => (0, 0)) [] := fun a _ => rfl
theorem Corr.snoc {M : Int → Int × Int} {L : List Pt} (h : Corr M L) (x : Pt) : Corr (setM M x.a (x.v, x.t)) (L ++ [x]) := fun a ha => by
  rw [lastP_snoc, setM]
  by_cases e : x.a = a
  · rw [if_pos e, if_pos e.symm]
  · rw [if_neg e, if_neg (fun h => e h.symm), h a ha]
theorem Corr.load : ∀ (bs : List Int) {M : Int → Int × Int} {L : List Pt} (a : Int), Corr M L → Corr (loadM M a bs) (L ++ putsP a bs)
  | [], M, L, a, h => by rw [putsP, List.append_nil]; exact h
  | b :: r, M, L, a, h => by
    have := Corr.load r (a + 1) (h.snoc ⟨a, b, 0⟩)
    rw [List.append_assoc] at this
    exact this
theorem atP_real {M : Int → Int × Int} {L : List Pt} (h : Corr M L) {a : Int} (ha : realB a = true) : atP L a = M a := by
  unfold atP
  rw [if_neg (by rintro ⟨h1, h2⟩; unfold realB at ha; rw [h1, h2] at ha; cases ha)]
  exact h a ha
theorem Corr.label : ∀ (n : Nat) {M : Int → Int × Int} {L : List Pt} (a t : Int), Corr M L → (∀ i : Nat, i < n → realB (a + (i : Int)) = true) → Corr (labelM n M a t) (labsP n L a t)
  | 0, M, L, a, t, h, _ => h
  | n + 1, M, L, a, t, h, hr => by
    have h0 : realB a = true := by have := hr 0 (by omega); simpa using this
    have e : atP L a = M a := atP_real h h0
    rw [labelM, labsP, e]
    refine Corr.label n (a + 1) t (h.snoc ⟨a, (M a).1, t⟩) (fun i hi => ?_)
    have := hr (i + 1) (by omega)
    rw [show a + 1 + (i : Int) = a + ((i + 1 : Nat) : Int) by omega]
    exact this
theorem one_real {f t : Int} (h : oneB f t = true) {a : Int} (h1 : f ≤ a) (h2 : a ≤ t) : realB a = true := by
  unfold oneB ramB romB at h
  unfold realB ramB romB
  simp only [Bool.or_eq_true, Bool.and_eq_true, decide_eq_true_eq] at h ⊢
  omega
theorem labsP_len : ∀ (n : Nat) (L : List Pt) (a t : Int), (labsP n L a t).length = L.length + n
  | 0, L, a, t => rfl
  | n + 1, L, a, t => by rw [labsP, labsP_len n, List.length_append, List.length_cons, List.length_nil]; omega
/-- What the bytes are behind a load, and behind labels. -/
theorem loadM_at : ∀ (bs : List Int) (M : Int → Int × Int) (a x : Int), loadM M a bs x = if h : a ≤ x ∧ x < a + bs.length then (bs[(x - a).toNat]'(by omega), 0) else M x
  | [], M, a, x => by rw [loadM, dif_neg (by simp)]
  | b :: r, M, a, x => by
    rw [loadM, loadM_at r]
    by_cases e : x = a
    · subst e
      rw [dif_neg (by omega), dif_pos (by simp only [List.length_cons]; omega), setM, if_pos rfl]
      simp
    · by_cases hx : a + 1 ≤ x ∧ x < a + 1 + r.length
      · rw [dif_pos hx, dif_pos (by simp only [List.length_cons]; omega)]
        have : (x - a).toNat = (x - (a + 1)).toNat + 1 := by omega
        simp only [this, List.getElem_cons_succ]
      · rw [dif_neg hx, dif_neg (by simp only [List.length_cons]; omega), setM, if_neg e]
theorem labelM_at : ∀ (n : Nat) (M : Int → Int × Int) (a t x : Int), labelM n M a t x = if a ≤ x ∧ x < a + n then ((M x).1, t) else M x
  | 0, M, a, t, x => by rw [labelM, if_neg (by omega)]
  | n + 1, M, a, t, x => by
    rw [labelM, labelM_at n]
    by_cases e : x = a
    · subst e
      rw [if_neg (by omega), if_pos (by omega), setM, if_pos rfl]
    · by_cases hx : a + 1 ≤ x ∧ x < a + 1 + n
      · rw [if_pos hx, if_pos (by omega), setM, if_neg e]
      · rw [if_neg hx, if_neg (by omega), setM, if_neg e]
end Go.Proofs.YtcilnbkmaoneaaaDoor
