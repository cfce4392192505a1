/-
  TaintBack returns true: the walk.
-/
import Derived.Test.YtbbiegbfoimcaaaBack
set_option linter.unusedSimpArgs false
set_option linter.unusedVariables false
namespace Go.Proofs.Ytbbiegbfoimcaaa
open Go.RowKit

/-- What stands at the head of the loop's round k: the byte, the bit, both anew, and the k bits that were put so far. -/
def BackMid (x t : BitVec 8) (v s : Bool) (w w2 : World) (k : Nat) (wr : World) : Prop :=
  (wr.cell? ⟨w.heap.size, 0, none⟩ = some (B8 x) ∧ wr.cell? ⟨w.heap.size, 1, none⟩ = some (B8 t) ∧
   wr.cell? ⟨w.heap.size + 1, 0, none⟩ = some (.bool v) ∧ wr.cell? ⟨w.heap.size + 1, 1, none⟩ = some (.bool s)) ∧
  (wr.cell? ⟨w2.heap.size, 0, none⟩ = some (B8 x) ∧ wr.cell? ⟨w2.heap.size, 1, none⟩ = some (B8 t) ∧
   wr.cell? ⟨w2.heap.size + 1, 0, none⟩ = some (.bool v) ∧ wr.cell? ⟨w2.heap.size + 1, 1, none⟩ = some (.bool s)) ∧
  (wr.cell? ⟨w2.heap.size + 1 + 1, 0, none⟩ = some (B8 (loB x k)) ∧ wr.cell? ⟨w2.heap.size + 1 + 1, 1, none⟩ = some (B8 (loB t k)) ∧
   wr.frozen? ⟨w2.heap.size + 1 + 1, 0, none⟩ = false ∧ wr.frozen? ⟨w2.heap.size + 1 + 1, 1, none⟩ = false) ∧
  w2.heap.size + 3 ≤ wr.heap.size ∧ Below w.heap.size w wr

theorem BackMid.below {x t : BitVec 8} {v s : Bool} {w w2 : World} {k : Nat} {W u : World} (h : BackMid x t v s w w2 k W) (h2 : w.heap.size + 2 ≤ w2.heap.size) (hb : Below W.heap.size W u) : BackMid x t v s w w2 k u := by
  obtain ⟨⟨a1, a2, a3, a4⟩, ⟨b1, b2, b3, b4⟩, ⟨c1, c2, c3, c4⟩, hs, hB⟩ := h
  exact ⟨⟨kc hb a1, kc hb a2, kc hb a3, kc hb a4⟩, ⟨kc hb b1, kc hb b2, kc hb b3, kc hb b4⟩, ⟨kc hb c1, kc hb c2, (hb.frozen (by show _ < _; dsimp only; omega)).trans c3, (hb.frozen (by show _ < _; dsimp only; omega)).trans c4⟩, by have := hb.size; omega, kb hB hb⟩

theorem BackMid.store {x t : BitVec 8} {v s : Bool} {w w2 : World} {k : Nat} {W : World} (h : BackMid x t v s w w2 k W) (h2 : w.heap.size + 2 ≤ w2.heap.size) (hk : k < 8) :
    BackMid x t v s w w2 (k + 1) ((W.setCell ⟨w2.heap.size + 1 + 1, 0, none⟩ (B8 (setB (loB x k) k (bitAt x k)))).setCell ⟨w2.heap.size + 1 + 1, 1, none⟩ (B8 (setB (loB t k) k (bitAt t k)))) := by
  have n1 : ¬ (w.heap.size = w2.heap.size + 1 + 1) := by omega
  have n2 : ¬ (w.heap.size = w2.heap.size + 1) := by omega
  have n3 : ¬ (w.heap.size + 1 = w2.heap.size + 1 + 1) := by omega
  obtain ⟨⟨a1, a2, a3, a4⟩, ⟨b1, b2, b3, b4⟩, ⟨c1, c2, c3, c4⟩, hs, hB⟩ := h
  rw [loB_succ x k hk, loB_succ t k hk]
  refine ⟨⟨?_, ?_, ?_, ?_⟩, ⟨?_, ?_, ?_, ?_⟩, ⟨?_, ?_, ?_, ?_⟩, by simpa using hs, (hB.setCell (by dsimp only; omega) _).setCell (by dsimp only; omega) _⟩ <;> (go_simp; done)

set_option maxHeartbeats 1000000 in
theorem back_walk (x t : BitVec 8) (v s : Bool) (w : World) : Calls Try.prog 9 #[TB x t, TBit v s] w (LawEnd w) := by
  go_enter Try.func9, Try.ntmps9
  go_wp2_with fail
  ((with_reducible refine (left_c x t v s _).mono ?_); rintro _ w1 ⟨rfl, hb⟩; have hzw1 := hb.size; (try simp only [World.size_alloc, World.size_setCell, World.size_drew] at hzw1); obtain ⟨hC, hF⟩ := bcell hb; (try simp only [World.size_alloc, World.size_setCell, World.size_drew] at hC hF); have hnw1w0 : ¬ (w.heap.size = w1.heap.size) := (by omega); have hmw1w0 : ¬ (w1.heap.size = w.heap.size) := (by omega); have hlw1w0 : w.heap.size < w1.heap.size := (by omega); have hcw1w0 := fun o => hC (w.heap.size) o (by omega); have hfw1w0 := fun o => hF (w.heap.size) o (by omega); have hnw1w1 : ¬ (w.heap.size + 1 = w1.heap.size) := (by omega); have hmw1w1 : ¬ (w1.heap.size = w.heap.size + 1) := (by omega); have hlw1w1 : w.heap.size + 1 < w1.heap.size := (by omega); have hcw1w1 := fun o => hC (w.heap.size + 1) o (by omega); have hfw1w1 := fun o => hF (w.heap.size + 1) o (by omega); have hBw1 : Below w.heap.size w w1 := Below.trans (by go_grown) (hb.mono (by first | go_size | (simp; omega))); clear hb hC hF)
  go_wp2_with fail
  ((with_reducible refine (right_c _ _ _ _ _).mono ?_); rintro _ w2 ⟨rfl, hb⟩; have hzw2 := hb.size; (try simp only [World.size_alloc, World.size_setCell, World.size_drew] at hzw2); obtain ⟨hC, hF⟩ := bcell hb; (try simp only [World.size_alloc, World.size_setCell, World.size_drew] at hC hF); have hnw2w0 : ¬ (w.heap.size = w2.heap.size) := (by omega); have hmw2w0 : ¬ (w2.heap.size = w.heap.size) := (by omega); have hlw2w0 : w.heap.size < w2.heap.size := (by omega); have hcw2w0 := fun o => hC (w.heap.size) o (by omega); have hfw2w0 := fun o => hF (w.heap.size) o (by omega); have hnw2w1 : ¬ (w.heap.size + 1 = w2.heap.size) := (by omega); have hmw2w1 : ¬ (w2.heap.size = w.heap.size + 1) := (by omega); have hlw2w1 : w.heap.size + 1 < w2.heap.size := (by omega); have hcw2w1 := fun o => hC (w.heap.size + 1) o (by omega); have hfw2w1 := fun o => hF (w.heap.size + 1) o (by omega); have hnw2w10 : ¬ (w1.heap.size = w2.heap.size) := (by omega); have hmw2w10 : ¬ (w2.heap.size = w1.heap.size) := (by omega); have hlw2w10 : w1.heap.size < w2.heap.size := (by omega); have hcw2w10 := fun o => hC (w1.heap.size) o (by omega); have hfw2w10 := fun o => hF (w1.heap.size) o (by omega); have hnw2w11 : ¬ (w1.heap.size + 1 = w2.heap.size) := (by omega); have hmw2w11 : ¬ (w2.heap.size = w1.heap.size + 1) := (by omega); have hlw2w11 : w1.heap.size + 1 < w2.heap.size := (by omega); have hcw2w11 := fun o => hC (w1.heap.size + 1) o (by omega); have hfw2w11 := fun o => hF (w1.heap.size + 1) o (by omega); have hBw2 : Below w.heap.size w w2 := Below.trans (by go_grown) (hb.mono (by first | go_size | (simp; omega))); clear hb hC hF)
  rw [(left_right x v).1, (left_right t s).1, (left_right x v).2, (left_right t s).2]
  go_wp2_with fail
  go_loopw [10] (fun i wr => ∃ k : Nat, k ≤ 8 ∧ i = .int .i64 k ∧ BackMid x t v s w w2 k wr) (fun i _ => 8 - (intOf i).toNat)
  case atStart =>
    refine ⟨0, by omega, rfl, ?_⟩
    unfold BackMid
    rw [loB_zero, loB_zero]
    refine ⟨⟨?_, ?_, ?_, ?_⟩, ⟨?_, ?_, ?_, ?_⟩, ⟨?_, ?_, ?_, ?_⟩, by simp, by go_grown⟩ <;> first | (refine kc (W := w2) ?_ ?_ <;> first | (go_grown; done) | (go_simp; done)) | (go_simp; first | done | rfl)
  case round =>
    obtain ⟨k, hk, rfl, hm⟩ := hrel
    obtain ⟨⟨a1, a2, a3, a4⟩, ⟨b1, b2, b3, b4⟩, ⟨c1, c2, c3, c4⟩, hs, hB⟩ := hm
    by_cases hlt : k < 8
    · have h2 : w.heap.size + 2 ≤ w2.heap.size := by omega
      have hm0 : BackMid x t v s w w2 k wr := ⟨⟨a1, a2, a3, a4⟩, ⟨b1, b2, b3, b4⟩, ⟨c1, c2, c3, c4⟩, hs, hB⟩
      clear hcw1w0 hcw1w1 hfw1w0 hfw1w1 hcw2w0 hcw2w1 hcw2w10 hcw2w11 hfw2w0 hfw2w1 hfw2w10 hfw2w11
      go_wp2_with fail
      go_region_with (first
        | (go_at_call 20; ((with_reducible refine (bit_in x t k hlt _).mono ?_); rintro _ u1 ⟨rfl, hb⟩; have hm1 := hm0.below h2 (((Below.refl _ _).drew).trans hb); obtain ⟨-, -, ⟨d1, d2, d3, d4⟩, -, -⟩ := id hm1; clear hb))
        | (go_at_call 22; ((with_reducible refine (put_in _ _ k _ _ hlt _).mono ?_); rintro _ u2 ⟨rfl, hb⟩; have hm2 := hm1.below h2 hb; obtain ⟨-, -, ⟨e1, e2, e3, e4⟩, -, -⟩ := id hm2; clear hb)))
      all_goals
        go_wp2_with fail
        go_roundw
        case rel => exact ⟨k + 1, by omega, by go_num, hm2.store h2 hlt⟩
        case measure => simp [intOf]; omega
    · have hk8 : k = 8 := by omega
      subst hk8
      rw [loB_all] at c1 c2
      clear hcw1w0 hcw1w1 hfw1w0 hfw1w1 hcw2w0 hcw2w1 hcw2w10 hcw2w11 hfw2w0 hfw2w1 hfw2w10 hfw2w11
      go_wp2_with fail
      go_region_held3 (fun w' => w'.cell? ⟨w.heap.size, 0, none⟩ = some (B8 x) ∧ w'.cell? ⟨w.heap.size, 1, none⟩ = some (B8 t) ∧ w'.cell? ⟨w.heap.size + 1, 0, none⟩ = some (.bool v) ∧ w'.cell? ⟨w.heap.size + 1, 1, none⟩ = some (.bool s) ∧ w'.cell? ⟨w2.heap.size, 0, none⟩ = some (B8 x) ∧ w'.cell? ⟨w2.heap.size, 1, none⟩ = some (B8 t) ∧ w'.cell? ⟨w2.heap.size + 1, 0, none⟩ = some (.bool v) ∧ w'.cell? ⟨w2.heap.size + 1, 1, none⟩ = some (.bool s) ∧ w'.cell? ⟨w2.heap.size + 1 + 1, 0, none⟩ = some (B8 x) ∧ w'.cell? ⟨w2.heap.size + 1 + 1, 1, none⟩ = some (B8 t) ∧ Below w.heap.size w w') (first | (have hh := ‹_ ∧ _›; exact ⟨kc hb hh.1, kc hb hh.2.1, kc hb hh.2.2.1, kc hb hh.2.2.2.1, kc hb hh.2.2.2.2.1, kc hb hh.2.2.2.2.2.1, kc hb hh.2.2.2.2.2.2.1, kc hb hh.2.2.2.2.2.2.2.1, kc hb hh.2.2.2.2.2.2.2.2.1, kc hb hh.2.2.2.2.2.2.2.2.2.1, kb hh.2.2.2.2.2.2.2.2.2.2 hb⟩) | (refine ⟨?_, ?_, ?_, ?_, ?_, ?_, ?_, ?_, ?_, ?_, ?_⟩ <;> first | (go_simp; done) | (simp [*]; done) | go_grown)) (first | (go_at_call 22; ((with_reducible refine (put8_c _ _ _ _ _).mono ?_); rintro _ w1 ⟨rfl, hb⟩)) | (go_at_call 22; ((with_reducible refine (putm_c _ _ _ _ _).mono ?_); rintro _ w1 ⟨rfl, hb⟩)) | (go_at_call 31; ((with_reducible refine (of0_z _).mono ?_); rintro _ w1 ⟨rfl, hb⟩)) | (go_at_call 31; ((with_reducible refine (of255_z _).mono ?_); rintro _ w1 ⟨rfl, hb⟩)) | (go_at_call 14; ((with_reducible refine (xor0_c _ _ _).mono ?_); rintro _ w1 ⟨rfl, hb⟩)) | (go_at_call 12; ((with_reducible refine (and255_c _ _ _).mono ?_); rintro _ w1 ⟨rfl, hb⟩)) | (go_at_call 12; ((with_reducible refine (and0_c _ _ _).mono ?_); rintro _ w1 ⟨rfl, hb⟩)) | (go_at_call 13; ((with_reducible refine (or0_c _ _ _).mono ?_); rintro _ w1 ⟨rfl, hb⟩)) | (go_at_call 15; ((with_reducible refine (awake_c _).mono ?_); rintro _ w1 ⟨rfl, hb⟩)))
      have hh := ‹_ ∧ _›; have hBe := hh.2.2.2.2.2.2.2.2.2.2
      go_wp2
      go_ret
      exact ⟨rfl, hBe⟩
end Go.Proofs.Ytbbiegbfoimcaaa
