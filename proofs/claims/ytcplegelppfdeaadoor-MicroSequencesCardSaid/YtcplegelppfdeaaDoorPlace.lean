/-
  The place of each byte in the document's table.
-/
import Derived.Test.YtcplegelppfdeaaDoorPlain
import Derived.Test.YtcplegelppfdeaaDoorFind
set_option linter.unusedSimpArgs false
set_option linter.unusedVariables false
namespace Go.Proofs.YtcplegelppfdeaaDoor
open Go.RowKit Go.PlainAid

/-- The place of a byte, off the list. -/
theorem placeD_list (b : Int) : placeD b = atL.findIdx? (· == b) := by
  have hp : ∀ n, n < 728 → atL[n]? = some (atD (n / 13) (n % 13)) := fun n hn => by
    have := at_eq (n / 13) (n % 13) (by omega) (by omega)
    rw [show 13 * (n / 13) + n % 13 = n by omega] at this
    exact this
  unfold placeD
  cases h : atL.findIdx? (· == b) with
  | none =>
    rw [List.find?_range_eq_none]
    intro n hn
    have h1 := hp n hn
    rw [List.findIdx?_eq_none_iff] at h
    have h2 := h (atD (n / 13) (n % 13)) (List.mem_of_getElem? h1)
    simp only [Bool.not_eq_true', h2, Bool.not_false]
  | some i =>
    rw [List.findIdx?_eq_some_iff_getElem] at h
    obtain ⟨hi, h1, h2⟩ := h
    have hi' : i < 728 := by rw [← atL_len]; exact hi
    have hv : ∀ n (hn : n < atL.length), atL[n] = atD (n / 13) (n % 13) := fun n hn => by
      have := hp n (by rw [← atL_len]; exact hn)
      rw [List.getElem?_eq_getElem hn] at this
      exact Option.some.inj this
    rw [List.find?_range_eq_some]
    refine ⟨by rw [← hv i hi]; exact h1, List.mem_range.2 hi', fun n hn => ?_⟩
    have := h2 n hn
    rw [hv n (by omega)] at this
    simpa using this
theorem place_all : ∀ b : Fin 256, atL.findIdx? (· == ((b.val : Nat) : Int)) = placeL.getD b.val none := by decide +kernel
end Go.Proofs.YtcplegelppfdeaaDoor
