/-
  Layer 13's laws: what a setup puts, told by the program's bytes and by the document's row alike.
-/
import Derived.Test.YtcnejgilmciljaaGreatDoorMade13
import Derived.Test.YtcnejgilmciljaaGreatDoorPlainWalk13
set_option linter.unusedSimpArgs false
set_option linter.unusedVariables false
namespace Go.Proofs.YtcnejgilmciljaaGreatDoor
open Go.RowKit Go.PlainAid

theorem load_corr {M : Int → Int × Int} {L : List Pt} (h : Corr M L) (a : Int) (bs : List Int) : (loadMp M a bs).1 = (loadP L a bs).1 ∧ Corr (loadMp M a bs).2 (loadP L a bs).2 := by
  have hc : ((!ramB a && !romB a) || (decide ((0 : Int) < (bs.length : Int)) && !oneB a (a + bs.length - 1))) = !onlyB a (lastA a bs.length) := by
    rw [onlyB_eq]
    unfold lastA
    by_cases h0 : bs.length = 0
    · rw [if_pos h0, h0]
      unfold oneB
      cases ramB a <;> cases romB a <;> simp
    · rw [if_neg h0, decide_eq_true (show (0 : Int) < (bs.length : Int) by omega), decide_eq_false (show ¬ (a + (bs.length : Int) - 1 < a) by omega)]
      unfold oneB
      cases ramB a <;> cases romB a <;> simp
  unfold loadMp loadP
  rw [hc]
  cases hO : onlyB a (lastA a bs.length)
  · exact ⟨rfl, h⟩
  · exact ⟨rfl, h.load bs a⟩
theorem label_corr {M : Int → Int × Int} {L : List Pt} (h : Corr M L) (f t tt : Int) : (labelMp M f t tt).1 = (labelP L f t tt).1 ∧ Corr (labelMp M f t tt).2 (labelP L f t tt).2 := by
  unfold labelMp labelP
  rw [onlyB_eq]
  cases hO : (decide (t < f) || !oneB f t)
  · simp only [Bool.or_eq_false_iff, Bool.not_eq_false', decide_eq_false_iff_not] at hO
    exact ⟨rfl, h.label _ f tt fun i hi => one_real hO.2 (by omega) (by omega)⟩
  · exact ⟨rfl, h⟩
theorem ck_corr {M : Int → Int × Int} {L : List Pt} (h : Corr M L) (x : Ck) : Corr (ckM M x) (ckL L x) := by
  obtain ⟨e, h1⟩ := load_corr h x.a x.l
  unfold ckM ckL
  rw [e]
  by_cases c : (loadP L x.a x.l).1 = 0 ∧ 0 < x.l.length
  · rw [if_pos c, if_pos c]
    exact (label_corr h1 _ _ _).2
  · rw [if_neg c, if_neg c]
    exact h1
theorem cks_corr : ∀ (cs : List Ck) {M : Int → Int × Int} {L : List Pt}, Corr M L → Corr (cksM cs M) (cksL cs L)
  | [], M, L, h => h
  | x :: r, M, L, h => cks_corr r (ck_corr h x)
theorem su_corr (s : Su) : Corr (suM s) (suL s) := cks_corr s.cs corr_nil
theorem cksL_len : ∀ (cs : List Ck) (L : List Pt), (∀ x ∈ cs, x.l.length ≤ 60) → (cksL cs L).length ≤ L.length + 120 * cs.length
  | [], L, _ => by simp [cksL]
  | x :: r, L, h => by
    have h1 := ckL_len L x (h x (List.mem_cons_self ..))
    have h2 := cksL_len r (ckL L x) (fun y hy => h y (List.mem_cons_of_mem _ hy))
    rw [cksL, List.length_cons]
    omega
theorem suL_len (s : Su) (h : ∀ x ∈ s.cs, x.l.length ≤ 60) (hc : s.cs.length ≤ 6) : (suL s).length ≤ 720 := by
  have := cksL_len s.cs [] h
  unfold suL
  simp at this
  omega
theorem prM_real {M : Int → Int × Int} {a : Int} (h : realB a = true) : prM M a = ⟨(M a).1, (M a).2, 0⟩ := by
  unfold prM
  unfold realB at h
  rcases kindI_cases a a with ⟨k, h1, -⟩ | ⟨k, h1, -⟩ | ⟨k, h1, -⟩ | ⟨k, h1, -⟩ | ⟨k, n1, n2, n3, n4⟩
  · rw [k, if_neg (by decide), if_neg (by decide), if_neg (by decide)]
  · exfalso; unfold devB at h1; unfold ramB romB at h; simp at h h1; omega
  · rw [k] 
    exfalso
    revert h h1
    unfold ramB romB
    simp
    omega
  · rw [k, if_neg (by decide), if_neg (by decide), if_neg (by decide)]
  · exfalso; simp only [Bool.or_eq_true] at h; rcases h with h | h; exact n1 ⟨h, h⟩; exact n4 ⟨h, h⟩
/-- Where something was put there is a byte. -/
def RealL (L : List Pt) : Prop := ∀ x ∈ L, realB x.a = true
theorem RealL.puts : ∀ (bs : List Int) {L : List Pt} (a : Int), RealL L → (∀ i : Nat, i < bs.length → realB (a + (i : Int)) = true) → RealL (L ++ putsP a bs)
  | [], L, a, h, _ => by rw [putsP, List.append_nil]; exact h
  | b :: r, L, a, h, hr => by
    have h0 : realB a = true := by have := hr 0 (by simp); simpa using this
    have h1 : RealL (L ++ [⟨a, b, 0⟩]) := fun y hy => by
      rcases List.mem_append.1 hy with hy | hy
      · exact h y hy
      · obtain rfl : y = ⟨a, b, 0⟩ := by simpa using hy
        exact h0
    have := RealL.puts r (a + 1) h1 (fun i hi => by
      have := hr (i + 1) (by simp; omega)
      rw [show a + 1 + (i : Int) = a + ((i + 1 : Nat) : Int) by omega]
      exact this)
    rw [List.append_assoc] at this
    exact this
theorem RealL.labs : ∀ (n : Nat) {L : List Pt} (a t : Int), RealL L → (∀ i : Nat, i < n → realB (a + (i : Int)) = true) → RealL (labsP n L a t)
  | 0, L, a, t, h, _ => h
  | n + 1, L, a, t, h, hr => by
    have h0 : realB a = true := by have := hr 0 (by omega); simpa using this
    rw [labsP]
    refine RealL.labs n (a + 1) t (fun y hy => ?_) (fun i hi => ?_)
    · rcases List.mem_append.1 hy with hy | hy
      · exact h y hy
      · obtain rfl : y = _ := by simpa using hy
        exact h0
    · have := hr (i + 1) (by omega)
      rw [show a + 1 + (i : Int) = a + ((i + 1 : Nat) : Int) by omega]
      exact this
theorem RealL.load {L : List Pt} (h : RealL L) (a : Int) (bs : List Int) : RealL (loadP L a bs).2 := by
  unfold loadP
  split
  · exact h
  · rename_i hO
    refine h.puts bs a fun i hi => ?_
    rw [decide_eq_true (show (0 : Int) < (bs.length : Int) by omega), Bool.true_and] at hO
    simp only [Bool.or_eq_true, Bool.not_eq_true', not_or, Bool.not_eq_false] at hO
    exact one_real hO.2 (by omega) (by omega)
theorem RealL.label {L : List Pt} (h : RealL L) (f t tt : Int) : RealL (labelP L f t tt).2 := by
  unfold labelP
  split
  · exact h
  · rename_i hO
    simp only [Bool.or_eq_true, Bool.not_eq_true', not_or, Bool.not_eq_false, decide_eq_true_eq] at hO
    exact h.labs _ f tt fun i hi => one_real hO.2 (by omega) (by omega)
theorem RealL.ck {L : List Pt} (h : RealL L) (x : Ck) : RealL (ckL L x) := by
  unfold ckL
  split
  · exact (h.load _ _).label _ _ _
  · exact h.load _ _
theorem RealL.cks : ∀ (cs : List Ck) {L : List Pt}, RealL L → RealL (cksL cs L)
  | [], L, h => h
  | x :: r, L, h => RealL.cks r (h.ck x)
theorem su_real (s : Su) : RealL (suL s) := RealL.cks s.cs (fun x h => by simp at h)
theorem wrD_real {B : Bd} (h : RealL B.L) (a v t : Int) : RealL (wrD B a v t).L := by
  unfold wrD
  split
  · exact h
  · show RealL (writeP B.L ⟨a, v, t⟩).2
    unfold writeP
    split
    · exact h
    · split
      · exact h
      · split
        · rename_i hr
          intro y hy
          rcases List.mem_append.1 hy with hy | hy
          · exact h y hy
          · obtain rfl : y = _ := by simpa using hy
            unfold realB; rw [hr]; rfl
        · exact h
theorem rdD_real {B : Bd} (h : RealL B.L) (a : Int) : RealL (rdD B a).L := by rw [rdD_L]; exact h
theorem su_q (s : Su) : suQ s = (suD s).q (suM s) := rfl
end Go.Proofs.YtcnejgilmciljaaGreatDoor
