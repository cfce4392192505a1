/-
  OpcodeFinds returns true at every name and number.
-/
import Derived.Test.YtnigcmicimdphaaFindsWalk
set_option linter.unusedSimpArgs false
set_option linter.unusedVariables false
namespace Go.Proofs.Ytnigcmicimdphaa
open Go.RowKit Go.PlainAid

theorem nm_row : ∀ b : Fin 256, isOp b.val = true → nameL.any (· == nm b.val) = true := by decide +kernel
theorem md_in : ∀ b : Fin 256, decide (0 ≤ md b.val ∧ md b.val ≤ 12) = true := by decide +kernel
theorem atN_get (i : Nat) (h : i < 728) : atL[i]? = some (atL.getD i 0) := by
  rw [List.getD, List.getElem?_eq_getElem (by rw [atL_len]; exact h)]; rfl
theorem some_rows : ∀ r : Fin 56, (List.range 13).all (fun m => byteB (nameL.getD r.val []) m == (if atL.getD (13 * r.val + m) 0 < 0 then 0 else atL.getD (13 * r.val + m) 0) && byteE (nameL.getD r.val []) m == (if atL.getD (13 * r.val + m) 0 < 0 then 15 else 0)) = true := by decide +kernel
theorem at_bounds : ∀ i : Fin 728, decide (-1 ≤ atL.getD i.val 0 ∧ atL.getD i.val 0 ≤ 255) = true := by decide +kernel
theorem wrong_rows : ∀ r : Fin 56, wrongB (upB 256) (nameL.getD r.val []) = 15 := by decide +kernel
theorem first_none (s : List UInt8) (m : Int) (h : ∀ b : OpB, (nm b.1 == s && md b.1 == m) = false) : firstB (upB 256) s m = none := by
  unfold firstB
  rw [List.find?_eq_none]
  intro x _
  rw [h x]; simp
theorem wrong_none (s : List UInt8) (h : ∀ b : OpB, (nm b.1 == s) = false) : wrongB (upB 256) s = 14 := by
  unfold wrongB
  rw [if_neg]
  rw [Bool.not_eq_true, List.any_eq_false]
  intro x _
  rw [h x]; simp
theorem finds_walk (S : ByteArray) (m : Int) (w : World) : Calls Try.prog 3 #[.string S, .int .i64 m] w (LawEnd w) := by
  by_cases hl : S.size ≤ 20
  · have hts : S.toList = lets S := by rw [ByteArray.toList_eq]
    cases hr : nameL.findIdx? (· == lets S) with
    | none =>
      have hrow : rowD S = -1 := by rw [rowD_list, hr]
      rw [List.findIdx?_eq_none_iff] at hr
      have hno : ∀ b : OpB, (nm b.1 == lets S) = false := fun b => by
        have h1 := nm_row ⟨b.1, b.2.1⟩ b.2.2
        rw [List.any_eq_true] at h1
        obtain ⟨l, hlm, he⟩ := h1
        have h2 := hr l hlm
        have e : l = nm b.1 := by simpa using he
        rw [e] at h2
        exact h2
      have hB : byteB S.toList m = 0 := by unfold byteB; rw [hts, first_none _ _ (fun b => by rw [hno b]; rfl)]
      have hE : byteE S.toList m = 14 := by unfold byteE; rw [hts, first_none _ _ (fun b => by rw [hno b]; rfl)]; exact wrong_none _ hno
      refine finds_short S m (byteB S.toList m) (byteE S.toList m) (lenD m) (rowD S) 0 hl (fun w => byte_c S m w) (fun w => lenp_c m w) (fun w => (length_c m w).mono fun e w' ⟨h1, h2⟩ => ⟨h1, below_of_eq h2⟩) (fun w => row_c S w) (fun h => absurd h (by rw [hrow]; decide)) (.inl ⟨by rw [hrow]; decide, hB, hE⟩) w
    | some r =>
      have hrow : rowD S = (r : Int) := by rw [rowD_list, hr]
      rw [List.findIdx?_eq_some_iff_getElem] at hr
      obtain ⟨hr1, hr2, _⟩ := hr
      have hr56 : r < 56 := hr1
      have hS : nameL.getD r [] = lets S := by
        rw [List.getD, List.getElem?_eq_getElem hr1]
        simpa using hr2
      by_cases hm : 0 ≤ m ∧ m ≤ 12
      · obtain ⟨k, rfl⟩ : ∃ k : Nat, m = k := ⟨m.toNat, by omega⟩
        have hk : k < 13 := by omega
        have hall := List.all_eq_true.1 (some_rows ⟨r, hr56⟩) k (List.mem_range.2 hk)
        simp only [Bool.and_eq_true, beq_iff_eq, hS] at hall
        have hv : atD r k = atL.getD (13 * r + k) 0 := by
          have h1 := at_eq r k hr56 hk
          rw [atN_get _ (by omega)] at h1
          exact (Option.some.inj h1).symm
        have hb := of_decide_eq_true (at_bounds ⟨13 * r + k, by omega⟩)
        simp only [] at hb
        rw [← hv] at hall hb
        rw [← hts] at hall
        refine finds_short S k (byteB S.toList k) (byteE S.toList k) (lenD k) (rowD S) (atD r k) hl (fun w => byte_c S k w) (fun w => lenp_c k w) (fun w => (length_c k w).mono fun e w' ⟨h1, h2⟩ => ⟨h1, below_of_eq h2⟩) (fun w => row_c S w) (fun _ _ _ w => by rw [hrow]; exact at_c r k hr56 hk w) ?_ w
        by_cases hn : atD r k < 0
        · rw [if_pos hn, if_pos hn] at hall
          exact .inr (.inr (.inr (.inl ⟨by rw [hrow]; omega, hm.1, hm.2, hn, hall.1, hall.2⟩)))
        · rw [if_neg hn, if_neg hn] at hall
          exact .inr (.inr (.inr (.inr ⟨by rw [hrow]; omega, hm.1, hm.2, by omega, hb.2, hall.1, hall.2⟩)))
      · have hno : ∀ b : OpB, (nm b.1 == lets S && md b.1 == m) = false := fun b => by
          have h1 := of_decide_eq_true (md_in ⟨b.1, b.2.1⟩)
          simp only [] at h1
          have h2 : (md b.1 == m) = false := by rw [beq_eq_false_iff_ne]; intro e; rw [e] at h1; exact hm h1
          rw [h2, Bool.and_false]
        have hB : byteB S.toList m = 0 := by unfold byteB; rw [hts, first_none _ _ hno]
        have hE : byteE S.toList m = 15 := by unfold byteE; rw [hts, first_none _ _ hno, ← hS]; exact wrong_rows ⟨r, hr56⟩
        refine finds_short S m (byteB S.toList m) (byteE S.toList m) (lenD m) (rowD S) 0 hl (fun w => byte_c S m w) (fun w => lenp_c m w) (fun w => (length_c m w).mono fun e w' ⟨h1, h2⟩ => ⟨h1, below_of_eq h2⟩) (fun w => row_c S w) (fun _ h1 h2 => absurd ⟨h1, h2⟩ hm) ?_ w
        by_cases h0 : m < 0
        · exact .inr (.inl ⟨by rw [hrow]; omega, h0, hB, hE⟩)
        · exact .inr (.inr (.inl ⟨by rw [hrow]; omega, by omega, by omega, hB, hE⟩))
  · exact finds_long S m hl w
end Go.Proofs.Ytnigcmicimdphaa
