/-
  The program's Byte by the document's rows; the ways of writing by the document's modes.
-/
import Derived.Test.YtpjpoopgafcedaaDoorByte
import Derived.Test.YtpjpoopgafcedaaDoorPars
import Derived.Test.YtpjpoopgafcedaaDoorParw
set_option linter.unusedSimpArgs false
set_option linter.unusedVariables false
namespace Go.Proofs.YtpjpoopgafcedaaDoor
open Go.RowKit Go.PlainAid

theorem nm_row : ∀ b : Fin 256, isOp b.val = true → nameL.any (· == nm b.val) = true := by decide +kernel
theorem some_rows : ∀ r : Fin 56, (List.range 13).all (fun m => byteB (nameL.getD r.val []) m == (if atL.getD (13 * r.val + m) 0 < 0 then 0 else atL.getD (13 * r.val + m) 0) && byteE (nameL.getD r.val []) m == (if atL.getD (13 * r.val + m) 0 < 0 then 15 else 0)) = true := by decide +kernel
theorem first_none (s : List UInt8) (m : Int) (h : ∀ b : OpB, (nm b.1 == s && md b.1 == m) = false) : firstB (upB 256) s m = none := by
  unfold firstB
  rw [List.find?_eq_none]
  intro x _
  rw [h x]; simp
theorem wrong_none (s : List UInt8) (h : ∀ b : OpB, (nm b.1 == s) = false) : wrongB (upB 256) s = 14 := by
  unfold wrongB
  rw [if_neg]
  rw [Bool.not_eq_true, List.any_eq_false]
  intro x _
  rw [h x]; simp
/-- What Byte answers, by the document's row of a name. -/
theorem byte_row (s : List UInt8) (m : Nat) (hm : m < 13) :
    (rowL3 s < 0 ∧ byteB s m = 0 ∧ byteE s m = 14) ∨ (0 ≤ rowL3 s ∧ atRL (rowL3 s) m < 0 ∧ byteB s m = 0 ∧ byteE s m = 15) ∨ (0 ≤ rowL3 s ∧ 0 ≤ atRL (rowL3 s) m ∧ byteB s m = atRL (rowL3 s) m ∧ byteE s m = 0) := by
  unfold rowL3
  cases hr : nameL.findIdx? (· == s) with
  | none =>
    rw [List.findIdx?_eq_none_iff] at hr
    have hno : ∀ b : OpB, (nm b.1 == s) = false := fun b => by
      have h1 := nm_row ⟨b.1, b.2.1⟩ b.2.2
      rw [List.any_eq_true] at h1
      obtain ⟨l, hlm, he⟩ := h1
      have h2 := hr l hlm
      have e : l = nm b.1 := by simpa using he
      rw [e] at h2
      exact h2
    have hB : byteB s m = 0 := by unfold byteB; rw [first_none _ _ (fun b => by rw [hno b]; rfl)]
    have hE : byteE s m = 14 := by unfold byteE; rw [first_none _ _ (fun b => by rw [hno b]; rfl)]; exact wrong_none _ hno
    exact .inl ⟨by decide, hB, hE⟩
  | some r =>
    rw [List.findIdx?_eq_some_iff_getElem] at hr
    obtain ⟨hr1, hr2, _⟩ := hr
    have hr56 : r < 56 := hr1
    have hS : nameL.getD r [] = s := by
      rw [List.getD, List.getElem?_eq_getElem hr1]
      simpa using hr2
    have hall := List.all_eq_true.1 (some_rows ⟨r, hr56⟩) m (List.mem_range.2 hm)
    simp only [Bool.and_eq_true, beq_iff_eq, hS] at hall
    have hv : atRL (r : Int) m = atL.getD (13 * r + m) 0 := by unfold atRL; simp
    simp only [hv]
    by_cases hn : atL.getD (13 * r + m) 0 < 0
    · rw [if_pos hn, if_pos hn] at hall
      exact .inr (.inl ⟨by omega, hn, hall.1, hall.2⟩)
    · rw [if_neg hn, if_neg hn] at hall
      exact .inr (.inr ⟨by omega, by omega, hall.1, hall.2⟩)
theorem fix_is (b a l : List UInt8) (d : Nat) : ((l.length == b.length + d + a.length) && (Lib.hasPrefix l b && Lib.hasSuffix l a)) = ((l.length == b.length + d + a.length) && (l.take b.length == b && l.drop (b.length + d) == a)) := by
  by_cases h : l.length = b.length + d + a.length
  · have e1 : Lib.hasPrefix l b = (l.take b.length == b) := by
      rw [Bool.eq_iff_iff]
      unfold Lib.hasPrefix
      rw [List.isPrefixOf_iff_prefix, beq_iff_eq, List.prefix_iff_eq_take]
      exact eq_comm
    have e2 : Lib.hasSuffix l a = (l.drop (b.length + d) == a) := by
      rw [Bool.eq_iff_iff]
      unfold Lib.hasSuffix
      rw [List.isSuffixOf_iff_suffix, beq_iff_eq, List.suffix_iff_eq_drop, show l.length - a.length = b.length + d by omega]
      exact eq_comm
    rw [e1, e2]
  · rw [show (l.length == b.length + d + a.length) = false by rw [beq_eq_false_iff_ne]; exact h]
    rfl
theorem ways_are : ∀ m : Fin 13, (m.val ≠ 0 ∧ m.val ≠ 1) → befP m.val = 32 :: aheadD (m.val : Int) ∧ dgP m.val = manyD (m.val : Int) ∧ aftP m.val = behindD (m.val : Int) := by decide +kernel
theorem parw_is (l : List UInt8) (m : Nat) (hm : m < 13) : parW (befP m) (dgP m) (aftP m) l = writtenD l (m : Int) := by
  unfold parW
  rw [fix_is]
  by_cases h0 : m = 0
  · subst h0
    unfold writtenD
    cases l with
    | nil => rfl
    | cons x r => simp [befP, dgP, aftP]
  by_cases h1 : m = 1
  · subst h1
    unfold writtenD
    match l with
    | [] => rfl
    | [x] => simp [befP, dgP, aftP]
    | [x, y] => simp [befP, dgP, aftP]
    | x :: y :: z :: r => simp [befP, dgP, aftP]
  obtain ⟨e1, e2, e3⟩ := ways_are ⟨m, hm⟩ ⟨h0, h1⟩
  dsimp only at e1 e2 e3
  have hb0 : ((m : Int) == 0) = false := by rw [beq_eq_false_iff_ne]; omega
  have hb1 : ((m : Int) == 1) = false := by rw [beq_eq_false_iff_ne]; omega
  have hd0 : manyD (m : Int) ≠ 0 := by unfold manyD; split <;> decide
  rw [e1, e2, e3]
  unfold writtenD
  rw [hb0, hb1, if_neg hd0]
  have hl : (l.length == (32 :: aheadD (m : Int)).length + manyD (m : Int) + (behindD (m : Int)).length) = ((l.length : Int) == ((aheadD (m : Int)).length + 1 : Nat) + manyI (m : Int) + ((behindD (m : Int)).length : Int)) := by
    rw [Bool.eq_iff_iff, beq_iff_eq, beq_iff_eq, ← manyI_eq, List.length_cons]
    omega
  rw [hl]
  simp only [List.length_cons, Bool.false_eq_true, if_false]
end Go.Proofs.YtpjpoopgafcedaaDoor
