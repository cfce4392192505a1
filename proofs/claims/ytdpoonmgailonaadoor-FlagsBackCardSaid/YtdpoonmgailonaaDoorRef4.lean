/-
  What the document's answer of layer 1 comes to: the eight bits of a byte.
-/
import Derived.Test.YtdpoonmgailonaaDoorRef2
set_option linter.unusedSimpArgs false
set_option linter.unusedVariables false
namespace Go.Proofs.YtdpoonmgailonaaDoor
open Go.RowKit

/-- What stands at the head of round k: the byte, the answer's place, and the first k bits. -/
structure BitsMid (x t : BitVec 8) (w : World) (k : Nat) (wr : World) : Prop where
  a0 : wr.cell? ⟨w.heap.size, 0, none⟩ = some (B8 x)
  a1 : wr.cell? ⟨w.heap.size, 1, none⟩ = some (B8 t)
  res : ∀ j, j < 16 → wr.cell? ⟨w.heap.size + 1, j, none⟩ = some (.bool false) ∧ wr.frozen? ⟨w.heap.size + 1, j, none⟩ = false
  val : ∀ j, j < 8 → wr.cell? ⟨w.heap.size + 1 + 1, j * 2, none⟩ = some (.bool (decide (j < k) && bitAt x j)) ∧ wr.frozen? ⟨w.heap.size + 1 + 1, j * 2, none⟩ = false
  tnt : ∀ j, j < 8 → wr.cell? ⟨w.heap.size + 1 + 1, j * 2 + 1, none⟩ = some (.bool (decide (j < k) && bitAt t j)) ∧ wr.frozen? ⟨w.heap.size + 1 + 1, j * 2 + 1, none⟩ = false
  old : Below w.heap.size w wr

theorem BitsMid.below {x t : BitVec 8} {w : World} {k : Nat} {W u : World} (h : BitsMid x t w k W) (hb : Below W.heap.size W u) : BitsMid x t w k u where
  a0 := kc hb h.a0
  a1 := kc hb h.a1
  res j hj := ⟨kc hb (h.res j hj).1, kfz hb (klt (h.res j hj).1) (h.res j hj).2⟩
  val j hj := ⟨kc hb (h.val j hj).1, kfz hb (klt (h.val j hj).1) (h.val j hj).2⟩
  tnt j hj := ⟨kc hb (h.tnt j hj).1, kfz hb (klt (h.tnt j hj).1) (h.tnt j hj).2⟩
  old := kb h.old hb

theorem BitsMid.store {x t : BitVec 8} {w : World} {k : Nat} {W : World} (h : BitsMid x t w k W) (hk : k < 8) :
    BitsMid x t w (k + 1) ((W.setCell ⟨w.heap.size + 1 + 1, k * 2, none⟩ (.bool (bitAt x k))).setCell ⟨w.heap.size + 1 + 1, k * 2 + 1, none⟩ (.bool (bitAt t k))) := by
  have far : ∀ (b o : Nat), (b = w.heap.size + 1 + 1 → o ≠ k * 2 ∧ o ≠ k * 2 + 1) → ((W.setCell ⟨w.heap.size + 1 + 1, k * 2, none⟩ (.bool (bitAt x k))).setCell ⟨w.heap.size + 1 + 1, k * 2 + 1, none⟩ (.bool (bitAt t k))).cell? ⟨b, o, none⟩ = W.cell? ⟨b, o, none⟩ := by
    intro b o hne
    rw [World.cell?_setCell_other, World.cell?_setCell_other]
    · intro e; injection e with e1 e2; exact (hne e1.symm).1 e2.symm
    · intro e; injection e with e1 e2; exact (hne e1.symm).2 e2.symm
  have hfz : ∀ (p : Addr), ((W.setCell ⟨w.heap.size + 1 + 1, k * 2, none⟩ (.bool (bitAt x k))).setCell ⟨w.heap.size + 1 + 1, k * 2 + 1, none⟩ (.bool (bitAt t k))).frozen? p = W.frozen? p := by
    intro p
    rw [World.frozen?_setCell, World.frozen?_setCell]
  have e1 := (h.val k hk).1
  have e2 := (h.tnt k hk).1
  refine ⟨?_, ?_, fun j hj => ⟨?_, ?_⟩, fun j hj => ⟨?_, ?_⟩, fun j hj => ⟨?_, ?_⟩, (h.old.setCell (by dsimp only; omega) _).setCell (by dsimp only; omega) _⟩
  · rw [far _ _ (by omega)]; exact h.a0
  · rw [far _ _ (by omega)]; exact h.a1
  · rw [far _ _ (by omega)]; exact (h.res j hj).1
  · rw [hfz]; exact (h.res j hj).2
  · by_cases e : j = k
    · subst e
      have : decide (j < j + 1) = true := by simp
      rw [this, Bool.true_and]
      go_simp
    · rw [far _ _ (by omega), (h.val j hj).1]
      have : decide (j < k + 1) = decide (j < k) := by by_cases h : j < k <;> simp [h] <;> omega
      rw [this]
  · rw [hfz]; exact (h.val j hj).2
  · by_cases e : j = k
    · subst e
      have : decide (j < j + 1) = true := by simp
      rw [this, Bool.true_and]
      go_simp
    · rw [far _ _ (by omega), (h.tnt j hj).1]
      have : decide (j < k + 1) = decide (j < k) := by by_cases h : j < k <;> simp [h] <;> omega
      rw [this]
  · rw [hfz]; exact (h.tnt j hj).2

set_option maxRecDepth 100000 in
set_option maxHeartbeats 1000000 in
theorem bits_r (x t : BitVec 8) (w : World) : Calls Tryd.prog 27 #[TB x t] w fun e w' =>
    e = .returned (.agg #[.bool (bitAt x 0), .bool (bitAt t 0), .bool (bitAt x 1), .bool (bitAt t 1), .bool (bitAt x 2), .bool (bitAt t 2), .bool (bitAt x 3), .bool (bitAt t 3), .bool (bitAt x 4), .bool (bitAt t 4), .bool (bitAt x 5), .bool (bitAt t 5), .bool (bitAt x 6), .bool (bitAt t 6), .bool (bitAt x 7), .bool (bitAt t 7)]) ∧ Below w.heap.size w w' := by
  go_enter Tryd.func27, Tryd.ntmps27
  go_wp2_with fail
  go_loopw [4] (fun i wr => ∃ k : Nat, k ≤ 8 ∧ i = .int .i64 k ∧ BitsMid x t w k wr) (fun i _ => 8 - (intOf i).toNat)
  case atStart =>
    refine ⟨0, by omega, rfl, ⟨by go_simp, by go_simp, fun j hj => ?_, fun j hj => ?_, fun j hj => ?_, by go_grown⟩⟩
    · match j, hj with
      | 0, _ | 1, _ | 2, _ | 3, _ | 4, _ | 5, _ | 6, _ | 7, _ | 8, _ | 9, _ | 10, _ | 11, _ | 12, _ | 13, _ | 14, _ | 15, _ => exact ⟨by go_simp, by go_simp⟩
      | n + 16, h => exact absurd h (by omega)
    · match j, hj with
      | 0, _ | 1, _ | 2, _ | 3, _ | 4, _ | 5, _ | 6, _ | 7, _ => exact ⟨by go_simp, by go_simp⟩
    · match j, hj with
      | 0, _ | 1, _ | 2, _ | 3, _ | 4, _ | 5, _ | 6, _ | 7, _ => exact ⟨by go_simp, by go_simp⟩
  case round =>
    obtain ⟨k, hk, rfl, hrel⟩ := hrel
    have ha0 := hrel.a0
    have ha1 := hrel.a1
    by_cases hlt : k < 8
    · go_wp2_with fail
      ((with_reducible refine (rbit_in _ _ k hlt _).mono ?_); rintro _ w1 ⟨rfl, hb⟩)
      have hm := hrel.below hb
      clear ha0 ha1 hrel hb
      obtain ⟨v1, v2⟩ := hm.val k hlt
      obtain ⟨t1, t2⟩ := hm.tnt k hlt
      go_wp2_with fail
      go_roundw
      case rel => exact ⟨k + 1, by omega, by go_num, hm.store hlt⟩
      case measure => simp [intOf]; omega
    · have hk8 : k = 8 := by omega
      subst hk8
      have v0 : wr.cell? ⟨w.heap.size + 1 + 1, 0, none⟩ = some (.bool (bitAt x 0)) := (hrel.val 0 (by omega)).1
      have t0 : wr.cell? ⟨w.heap.size + 1 + 1, 1, none⟩ = some (.bool (bitAt t 0)) := (hrel.tnt 0 (by omega)).1
      have v1 : wr.cell? ⟨w.heap.size + 1 + 1, 2, none⟩ = some (.bool (bitAt x 1)) := (hrel.val 1 (by omega)).1
      have t1 : wr.cell? ⟨w.heap.size + 1 + 1, 3, none⟩ = some (.bool (bitAt t 1)) := (hrel.tnt 1 (by omega)).1
      have v2 : wr.cell? ⟨w.heap.size + 1 + 1, 4, none⟩ = some (.bool (bitAt x 2)) := (hrel.val 2 (by omega)).1
      have t2 : wr.cell? ⟨w.heap.size + 1 + 1, 5, none⟩ = some (.bool (bitAt t 2)) := (hrel.tnt 2 (by omega)).1
      have v3 : wr.cell? ⟨w.heap.size + 1 + 1, 6, none⟩ = some (.bool (bitAt x 3)) := (hrel.val 3 (by omega)).1
      have t3 : wr.cell? ⟨w.heap.size + 1 + 1, 7, none⟩ = some (.bool (bitAt t 3)) := (hrel.tnt 3 (by omega)).1
      have v4 : wr.cell? ⟨w.heap.size + 1 + 1, 8, none⟩ = some (.bool (bitAt x 4)) := (hrel.val 4 (by omega)).1
      have t4 : wr.cell? ⟨w.heap.size + 1 + 1, 9, none⟩ = some (.bool (bitAt t 4)) := (hrel.tnt 4 (by omega)).1
      have v5 : wr.cell? ⟨w.heap.size + 1 + 1, 10, none⟩ = some (.bool (bitAt x 5)) := (hrel.val 5 (by omega)).1
      have t5 : wr.cell? ⟨w.heap.size + 1 + 1, 11, none⟩ = some (.bool (bitAt t 5)) := (hrel.tnt 5 (by omega)).1
      have v6 : wr.cell? ⟨w.heap.size + 1 + 1, 12, none⟩ = some (.bool (bitAt x 6)) := (hrel.val 6 (by omega)).1
      have t6 : wr.cell? ⟨w.heap.size + 1 + 1, 13, none⟩ = some (.bool (bitAt t 6)) := (hrel.tnt 6 (by omega)).1
      have v7 : wr.cell? ⟨w.heap.size + 1 + 1, 14, none⟩ = some (.bool (bitAt x 7)) := (hrel.val 7 (by omega)).1
      have t7 : wr.cell? ⟨w.heap.size + 1 + 1, 15, none⟩ = some (.bool (bitAt t 7)) := (hrel.tnt 7 (by omega)).1
      have r0 := (hrel.res 0 (by omega)).1
      have f0 := (hrel.res 0 (by omega)).2
      have r1 := (hrel.res 1 (by omega)).1
      have f1 := (hrel.res 1 (by omega)).2
      have r2 := (hrel.res 2 (by omega)).1
      have f2 := (hrel.res 2 (by omega)).2
      have r3 := (hrel.res 3 (by omega)).1
      have f3 := (hrel.res 3 (by omega)).2
      have r4 := (hrel.res 4 (by omega)).1
      have f4 := (hrel.res 4 (by omega)).2
      have r5 := (hrel.res 5 (by omega)).1
      have f5 := (hrel.res 5 (by omega)).2
      have r6 := (hrel.res 6 (by omega)).1
      have f6 := (hrel.res 6 (by omega)).2
      have r7 := (hrel.res 7 (by omega)).1
      have f7 := (hrel.res 7 (by omega)).2
      have r8 := (hrel.res 8 (by omega)).1
      have f8 := (hrel.res 8 (by omega)).2
      have r9 := (hrel.res 9 (by omega)).1
      have f9 := (hrel.res 9 (by omega)).2
      have r10 := (hrel.res 10 (by omega)).1
      have f10 := (hrel.res 10 (by omega)).2
      have r11 := (hrel.res 11 (by omega)).1
      have f11 := (hrel.res 11 (by omega)).2
      have r12 := (hrel.res 12 (by omega)).1
      have f12 := (hrel.res 12 (by omega)).2
      have r13 := (hrel.res 13 (by omega)).1
      have f13 := (hrel.res 13 (by omega)).2
      have r14 := (hrel.res 14 (by omega)).1
      have f14 := (hrel.res 14 (by omega)).2
      have r15 := (hrel.res 15 (by omega)).1
      have f15 := (hrel.res 15 (by omega)).2
      have hB := hrel.old
      clear hrel ha0 ha1
      go_wp2
      refine bodyPost_ret (v := .agg #[_, _, _, _, _, _, _, _, _, _, _, _, _, _, _, _]) (by simp [results, Tryd.results27, go_sem, r0, r1, r2, r3, r4, r5, r6, r7, r8, r9, r10, r11, r12, r13, r14, r15] <;> first | done | rfl | exact dec_eq Iff.rfl) rfl ⟨rfl, by go_grown⟩
end Go.Proofs.YtdpoonmgailonaaDoor
