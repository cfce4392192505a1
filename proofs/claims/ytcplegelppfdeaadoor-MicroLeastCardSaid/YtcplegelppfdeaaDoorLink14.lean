/-
  Layer 14: what the document tells of a byte: no opcode, or its steps.
-/
import Derived.Test.YtcplegelppfdeaaDoorDoc14
import Derived.Test.YtcplegelppfdeaaDoorInts14
import Derived.Test.YtcplegelppfdeaaDoorKLets
import Derived.Test.YtcplegelppfdeaaDoorOf
set_option linter.unusedSimpArgs false
set_option linter.unusedVariables false
namespace Go.Proofs.YtcplegelppfdeaaDoor
open Go.RowKit Go.PlainAid

/-- An opcode's steps. -/
def progL (b : Nat) : List Int := stepsL (txP (nm b) (md b) (kindP (nm b) (md b)))
theorem place_lt14 : ∀ b : Fin 256, (match placeL.getD b.val none with | some n => decide (n < 728) | none => true) = true := by decide +kernel
theorem kind_same14 : ∀ b : Fin 256, (!isOp b.val || okindL (nm b.val) (md b.val) == kindP (nm b.val) (md b.val)) = true := by decide +kernel
theorem progL_len : ∀ b : Fin 256, decide ((progL b.val).length ≤ 6) = true := by decide +kernel
theorem find_no14 (b : Nat) (hb : b < 256) (ho : isOp b = false) (w : World) : Calls Tryd.prog 9 #[.int .i64 b] w fun e w' => e = .returned (.tuple #[.int .i64 (-1), .int .i64 (-1)]) ∧ Below w.heap.size w w' := by
  have hp := placeD_byte b hb
  have hn : placeL.getD b none = none := by unfold isOp at ho; cases h : placeL.getD b none with
    | none => rfl
    | some n => rw [h] at ho; cases ho
  have e1 : findR (b : Int) = -1 := by unfold findR; rw [hp, hn]
  have e2 : findM (b : Int) = -1 := by unfold findM; rw [hp, hn]
  have := ofind_c (b : Int) w
  rw [e1, e2] at this
  exact this
theorem find_op14 (b : Nat) (hb : b < 256) (ho : isOp b = true) : ∃ r : Nat, r < 56 ∧ findR (b : Int) = (r : Int) ∧ (nameD r).toList = nm b ∧ findM (b : Int) = md b ∧ kindD (nameD r) (md b) = kindP (nm b) (md b) := by
  have hp := placeD_byte b hb
  cases hn : placeL.getD b none with
  | none => unfold isOp at ho; rw [hn] at ho; cases ho
  | some n =>
    have hlt : n < 728 := by
      have := place_lt14 ⟨b, hb⟩
      simp only [hn] at this
      exact of_decide_eq_true this
    have hmd : md b = ((n % 13 : Nat) : Int) := by unfold md; rw [hn]
    have hnm : nm b = nameL.getD (n / 13) [] := by unfold nm; rw [hn]
    have hl := name_list ⟨n / 13, by omega⟩
    dsimp only at hl
    rw [← hnm] at hl
    have hS : nameD (n / 13) = ⟨(nm b).toArray⟩ := by
      rw [← hl]
    refine ⟨n / 13, by omega, by unfold findR; rw [hp, hn], by rw [hS, ByteArray.toList_eq], by unfold findM; rw [hp, hn, hmd], ?_⟩
    have := kind_same14 ⟨b, hb⟩
    simp only [ho, Bool.not_true, Bool.false_or, beq_iff_eq] at this
    rw [hS, kindD_list, show lets ⟨(nm b).toArray⟩ = nm b from by unfold lets; simp, this]
/-- The document's steps of a byte that is an opcode. -/
theorem prog_byte (b : Nat) (hb : b < 256) (ho : isOp b = true) (w : World) : Calls Tryd.prog 12 #[.int .i64 b] w (StepsEnd (progL b) w) := by
  obtain ⟨r, hr, h1, h2, h3, h4⟩ := find_op14 b hb ho
  have := prog14_c (b : Int) r hr h1 w
  rw [h2, h3, h4] at this
  exact this
theorem find_byte (b : Nat) (hb : b < 256) (ho : isOp b = true) : ∃ r : Nat, ∀ w, Calls Tryd.prog 9 #[.int .i64 b] w fun e w' => e = .returned (.tuple #[.int .i64 r, .int .i64 (md b)]) ∧ Below w.heap.size w w' := by
  obtain ⟨r, hr, h1, h2, h3, h4⟩ := find_op14 b hb ho
  refine ⟨r, fun w => ?_⟩
  have := ofind_c (b : Int) w
  rw [h1, h3] at this
  exact this
theorem StepsEnd.holds {l : List Int} {N : Nat} {v : Value} {u : World} (h : OwnI N v l u) : HoldsW nE 1 u v l := HoldsW.own nE_len h.o
end Go.Proofs.YtcplegelppfdeaaDoor
