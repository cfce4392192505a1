/-
  The chapter's example holds: what 'awake' comes to.
-/
import Derived.Test.YtdpoonmgailonaaDoorText
set_option linter.unusedSimpArgs false
set_option linter.unusedVariables false
namespace Go.Proofs.YtdpoonmgailonaaDoor
open Go.RowKit

theorem txt_ex : txt 3#8 128#8 = ⟨#[63, 118, 111, 98, 100, 105, 90, 67]⟩ := by decide +kernel
theorem text_ex (w : World) : Calls Tryd.prog 20 #[.agg #[.int .u8 3, .int .u8 128]] w fun e w' => e = .returned (.string ⟨#[63, 118, 111, 98, 100, 105, 90, 67]⟩) ∧ Below w.heap.size w w' := by
  rw [← txt_ex]
  exact text_c 3#8 128#8 w
theorem awake_c (w : World) : Calls Tryd.prog 17 #[] w fun e w' => e = .returned (.bool true) ∧ Below w.heap.size w w' := by
  go_enter Tryd.func17, Tryd.ntmps17
  go_wp2_with fail
  ((with_reducible refine (text_ex _).mono ?_); rintro _ w1 ⟨rfl, hb⟩)
  have hz := hb.size
  (try simp only [World.size_alloc, World.size_setCell, World.size_drew] at hz)
  have hB' : Below w.heap.size w w1 := by
      refine kb ?_ hb
      go_grown
  clear hb hz
  have hB := hB'; clear hB'
  have hsz := hB.size
  go_wp2
  go_ret
  exact ⟨rfl, hB⟩
end Go.Proofs.YtdpoonmgailonaaDoor
