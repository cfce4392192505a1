/-
  The chapter's examples hold: what 'awake' comes to.
-/
import Derived.Test.YtnigcmicimdphaaOf
set_option linter.unusedSimpArgs false
set_option linter.unusedVariables false
namespace Go.Proofs.Ytnigcmicimdphaa
open Go.RowKit Go.PlainAid

theorem lda_nm : nm 169 = [76, 68, 65] := by decide +kernel
theorem of_169 (w : World) : Calls Try.prog 12 #[.int .u8 169] w fun e w' => e = .returned (.tuple #[.agg #[.string ⟨#[76, 68, 65]⟩, .int .i64 2, .int .i64 1], .int .i64 0]) ∧ Below w.heap.size w w' := by
  have h := of_c 169 (by omega) w
  have e1 : md 169 = 2 := by decide +kernel
  have e2 : isOp 169 = true := by decide +kernel
  have e3 : kindP [76, 68, 65] 2 = 1 := by decide +kernel
  have e : ofV 169 = .tuple #[.agg #[.string ⟨#[76, 68, 65]⟩, .int .i64 2, .int .i64 1], .int .i64 0] := by
    unfold ofV opC errOf
    rw [e2, lda_nm, e1, e3]
    rfl
  rw [e] at h
  exact h
theorem of_2 (w : World) : Calls Try.prog 12 #[.int .u8 2] w fun e w' => e = .returned (.tuple #[.agg #[.string ⟨#[]⟩, .int .i64 0, .int .i64 0], .int .i64 13]) ∧ Below w.heap.size w w' := by
  have h := of_c 2 (by omega) w
  have e2 : isOp 2 = false := by decide +kernel
  have e : ofV 2 = .tuple #[.agg #[.string ⟨#[]⟩, .int .i64 0, .int .i64 0], .int .i64 13] := by
    unfold ofV opC errOf
    rw [e2]
    rfl
  rw [e] at h
  exact h
set_option maxRecDepth 100000 in
set_option maxHeartbeats 1000000 in
theorem awake_c (w : World) : Calls Try.prog 5 #[] w fun e w' => e = .returned (.bool true) ∧ Below w.heap.size w w' := by
  go_enter Try.func5, Try.ntmps5
  go_wp2_with fail
  ((with_reducible refine (of_169 _).mono ?_); rintro _ w1 ⟨rfl, hb⟩)
  have hz := hb.size
  (try simp only [World.size_alloc, World.size_setCell, World.size_drew] at hz)
  have hB' : Below w.heap.size w w1 := by
      refine kb ?_ hb
      go_grown
  clear hb hz
  have hB := hB'; clear hB'
  have hsz := hB.size
  go_wp2_with fail
  ((with_reducible refine (of_2 _).mono ?_); rintro _ w2 ⟨rfl, hb⟩)
  have T : w2.cell? ⟨w1.heap.size, 0, none⟩ = some (.string ⟨#[76, 68, 65]⟩) ∧ w2.cell? ⟨w1.heap.size, 1, none⟩ = some (.int .i64 2) ∧ w2.cell? ⟨w1.heap.size, 2, none⟩ = some (.int .i64 1) := by
      refine ⟨?_, ?_, ?_⟩ <;> refine kc hb ?_ <;> (go_simp; first | done | rfl)
  have hz := hb.size
  (try simp only [World.size_alloc, World.size_setCell, World.size_drew] at hz)
  have hlx' : w1.heap.size < w2.heap.size := by omega
  have hB' : Below w.heap.size w w2 := by
      refine kb ?_ hb
      go_grown
  clear hB hsz
  clear hb hz
  obtain ⟨hx_0, hx_1, hx_2⟩ := T
  have hlx := hlx'; clear hlx'
  have hnx0 : ¬ (w1.heap.size = w2.heap.size) := by omega
  have hnx1 : ¬ (w1.heap.size = w2.heap.size + 1) := by omega
  have hkx1 : w1.heap.size < w2.heap.size + 1 := by omega
  have hnx2 : ¬ (w1.heap.size = w2.heap.size + 1 + 1) := by omega
  have hkx2 : w1.heap.size < w2.heap.size + 1 + 1 := by omega
  have hB := hB'; clear hB'
  have hsz := hB.size
  go_wp2
  go_ret
  exact ⟨rfl, by go_grown⟩
end Go.Proofs.Ytnigcmicimdphaa
