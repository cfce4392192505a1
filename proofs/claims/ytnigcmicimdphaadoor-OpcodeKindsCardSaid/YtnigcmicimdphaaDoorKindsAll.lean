/-
  OpcodeKinds returns true at every byte.
-/
import Derived.Test.YtnigcmicimdphaaDoorKindsWalk
set_option linter.unusedSimpArgs false
set_option linter.unusedVariables false
namespace Go.Proofs.YtnigcmicimdphaaDoor
open Go.RowKit Go.PlainAid

theorem kind_facts : ∀ b : Fin 256, isOp b.val = true →
    (kindP (nm b.val) (md b.val) = 0 ∧ cycV b.val = 2 ∧ md b.val = 0) ∨ (kindP (nm b.val) (md b.val) = 0 ∧ cycV b.val = 2 ∧ md b.val = 1) ∨
    (kindP (nm b.val) (md b.val) = 1 ∧ decide (2 ≤ md b.val) = true ∧ decide (md b.val ≤ 10) = true) ∨
    (kindP (nm b.val) (md b.val) = 2 ∧ btL (nm b.val) 0 = 83 ∧ decide (3 ≤ md b.val) = true ∧ decide (md b.val ≤ 10) = true) ∨
    (kindP (nm b.val) (md b.val) = 3 ∧ decide (5 ≤ cycV b.val) = true ∧ md b.val = 3) ∨ (kindP (nm b.val) (md b.val) = 3 ∧ decide (5 ≤ cycV b.val) = true ∧ md b.val = 4) ∨
    (kindP (nm b.val) (md b.val) = 3 ∧ decide (5 ≤ cycV b.val) = true ∧ md b.val = 6) ∨ (kindP (nm b.val) (md b.val) = 3 ∧ decide (5 ≤ cycV b.val) = true ∧ md b.val = 7) ∨
    (kindP (nm b.val) (md b.val) = 4 ∧ md b.val = 12 ∧ btL (nm b.val) 0 = 66 ∧ (nm b.val == [66, 82, 75]) = false) ∨
    (kindP (nm b.val) (md b.val) = 4 ∧ md b.val = 0 ∧ btL (nm b.val) 0 = 66 ∧ (nm b.val == [66, 82, 75]) = true) ∨
    (kindP (nm b.val) (md b.val) = 4 ∧ md b.val = 0 ∧ (btL (nm b.val) 0 == 66) = false) ∨ (kindP (nm b.val) (md b.val) = 4 ∧ md b.val = 6 ∧ (btL (nm b.val) 0 == 66) = false) ∨
    (kindP (nm b.val) (md b.val) = 4 ∧ md b.val = 11 ∧ (btL (nm b.val) 0 == 66) = false ∧ (nm b.val == [74, 77, 80]) = true) := by decide +kernel
theorem nm_size : ∀ b : Fin 256, isOp b.val = true → (nm b.val).length = 3 := by decide +kernel
theorem run_op_none (w : World) : (binOp .eql 23 (.agg #[.string ⟨#[]⟩, .int .i64 0, .int .i64 0]) (.agg #[.string ⟨#[]⟩, .int .i64 0, .int .i64 0])).run Tryd.prog w = .ok (.bool true) w := by
  rw [run_op_eql]; simp
set_option maxRecDepth 100000 in
set_option maxHeartbeats 2000000 in
theorem kinds_no (b : Nat) (hb : b < 256)
    (hO : ∀ w, Calls Tryd.prog 6 #[.int .u8 b] w fun e w' => e = .returned (.tuple #[.agg #[.string ⟨#[]⟩, .int .i64 0, .int .i64 0], .int .i64 13]) ∧ Below w.heap.size w w')
    (w : World) : Calls Tryd.prog 5 #[.int .u8 b] w (LawEnd w) := by
  have HO := Lib.hid hO
  clear hO
  have q := run_op_none
  go_enter Tryd.func5, Tryd.ntmps5
  go_wp2_with fail
  ((with_reducible refine (HO.out _).mono ?_); rintro _ w1 ⟨rfl, hb⟩)
  have hz := hb.size
  (try simp only [World.size_alloc, World.size_setCell, World.size_drew] at hz)
  have hB' : Below w.heap.size w w1 := by
      refine kb ?_ hb
      go_grown
  clear hb hz
  have hB := hB'; clear hB'
  have hsz := hB.size
  go_wp2_with fail
  ((with_reducible refine (awake_c _).mono ?_); rintro _ w4 ⟨rfl, hb⟩)
  have hz := hb.size
  (try simp only [World.size_alloc, World.size_setCell, World.size_drew] at hz)
  have hB' : Below w.heap.size w w4 := by
      refine kb ?_ hb
      go_grown
  clear hB hsz
  clear hb hz
  have hB := hB'; clear hB'
  have hsz := hB.size
  go_wp2
  go_ret
  exact ⟨rfl, by go_grown⟩
theorem kinds_walk (b : Nat) (hb : b < 256) (w : World) (hL : Laid w) : Calls Tryd.prog 5 #[.int .u8 b] w (LawEnd w) := by
  cases ho : isOp b
  · have hv : ofV b = .tuple #[.agg #[.string ⟨#[]⟩, .int .i64 0, .int .i64 0], .int .i64 13] := by unfold ofV opC errOf; rw [ho]; rfl
    exact kinds_no b hb (fun w => by rw [← hv]; exact of_c b hb w) w
  · have hv : ofV b = .tuple #[.agg #[.string ⟨(nm b).toArray⟩, .int .i64 (md b), .int .i64 (kindP (nm b) (md b))], .int .i64 0] := by unfold ofV opC errOf; rw [ho]; rfl
    have hf := kind_facts ⟨b, hb⟩ ho
    have hz := nm_size ⟨b, hb⟩ ho
    simp only [] at hf hz
    refine kinds_op b hb ⟨(nm b).toArray⟩ (md b) (kindP (nm b) (md b)) (cycV b) (btL (nm b) 0) (fun w => by rw [← hv]; exact of_c b hb w) (fun w hw => cycp_c b hb w hw) (fun W => ?_) (by rw [toList_mk]; exact hf) w hL
    have h := ix_at ⟨(nm b).toArray⟩ 0 (by show 0 < (nm b).toArray.size; simp [hz]) 0 rfl W
    rw [bt_list ⟨(nm b).toArray⟩ (nm b) rfl] at h
    exact h
end Go.Proofs.YtnigcmicimdphaaDoor
