/-
  Rows by the letters of a name, as lists.
-/
import Derived.Test.YtpjpoopgafcedaaGreatDoorLets
import Derived.Test.YtpjpoopgafcedaaGreatDoorRow
set_option linter.unusedSimpArgs false
set_option linter.unusedVariables false
namespace Go.Proofs.YtpjpoopgafcedaaGreatDoor
open Go.RowKit Go.PlainAid

theorem rowD_list (s : ByteArray) : rowD s = match nameL.findIdx? (· == lets s) with | some r => (r : Int) | none => -1 := by
  have hl : nameL.length = 56 := by decide
  have hv : ∀ r, r < 56 → nameL[r]? = some (lets (nameD r)) := fun r hr => by
    rw [name_lets r hr, List.getD, List.getElem?_eq_getElem (by omega)]; rfl
  have : rowO s = nameL.findIdx? (· == lets s) := by
    unfold rowO
    cases h : nameL.findIdx? (· == lets s) with
    | none =>
      rw [List.find?_range_eq_none]
      intro n hn
      rw [List.findIdx?_eq_none_iff] at h
      have h2 := h (lets (nameD n)) (List.mem_of_getElem? (hv n hn))
      rw [ByteArray.toList_eq, ByteArray.toList_eq]
      simp only [h2, Bool.not_false]
    | some i =>
      rw [List.findIdx?_eq_some_iff_getElem] at h
      obtain ⟨hi, h1, h2⟩ := h
      have hi' : i < 56 := by rw [← hl]; exact hi
      have hw : ∀ n (hn : n < nameL.length), nameL[n] = lets (nameD n) := fun n hn => by
        have := hv n (by rw [← hl]; exact hn)
        rw [List.getElem?_eq_getElem hn] at this
        exact Option.some.inj this
      rw [List.find?_range_eq_some]
      refine ⟨by rw [ByteArray.toList_eq, ByteArray.toList_eq]; show (lets (nameD i) == lets s) = true; rw [← hw i hi]; exact h1, List.mem_range.2 hi', fun n hn => ?_⟩
      have := h2 n hn
      rw [hw n (by omega)] at this
      rw [ByteArray.toList_eq, ByteArray.toList_eq]
      simpa using this
  unfold rowD
  rw [this]
  cases nameL.findIdx? (· == lets s) <;> rfl
end Go.Proofs.YtpjpoopgafcedaaGreatDoor
