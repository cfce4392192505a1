/-
  TaintTight returns true: the walk.
-/
import Derived.Test.YtbbiegbfoimcaaaGates
import Derived.Test.YtbbiegbfoimcaaaAwake
set_option linter.unusedSimpArgs false
set_option linter.unusedVariables false
namespace Go.Proofs.Ytbbiegbfoimcaaa
open Go.RowKit

set_option maxHeartbeats 1000000 in
theorem tight_walk (a t b s : BitVec 8) (w : World) : Calls Try.prog 8 #[TB a t, TB b s] w (LawEnd w) := by
  have h1 := u8_and
  have h2 := u8_or
  have h3 := u8_xor
  have h4 := u8_andNot
  go_enter Try.func8, Try.ntmps8
  go_wp2_with fail
  (refine (and_d a t b s _).mono ?_; rintro _ w1 ⟨rfl, hb⟩; have hzw1 := hb.size; (try simp only [World.size_alloc, World.size_setCell, World.size_drew] at hzw1); have hlw10 : w.heap.size < w1.heap.size := (by first | omega | (simp at *; omega)); have hnw10 : ¬ (w.heap.size = w1.heap.size) := (by omega); have hmw10 : ¬ (w1.heap.size = w.heap.size) := (by omega); have hlw11 : w.heap.size + 1 < w1.heap.size := (by first | omega | (simp at *; omega)); have hnw11 : ¬ (w.heap.size + 1 = w1.heap.size) := (by omega); have hmw11 : ¬ (w1.heap.size = w.heap.size + 1) := (by omega); have hBw1 : Below w.heap.size w w1 := Below.trans (by go_grown) (hb.mono (by first | go_size | (simp; omega))); obtain ⟨hcw1, hfw1⟩ := bcell hb; (try simp only [World.size_alloc, World.size_setCell, World.size_drew] at hcw1 hfw1); clear hb)
  go_wp2_with fail
  (refine (or_d a t b s _).mono ?_; rintro _ w2 ⟨rfl, hb⟩; have hzw2 := hb.size; (try simp only [World.size_alloc, World.size_setCell, World.size_drew] at hzw2); have hlw20 : w.heap.size < w2.heap.size := (by first | omega | (simp at *; omega)); have hnw20 : ¬ (w.heap.size = w2.heap.size) := (by omega); have hmw20 : ¬ (w2.heap.size = w.heap.size) := (by omega); have hlw21 : w.heap.size + 1 < w2.heap.size := (by first | omega | (simp at *; omega)); have hnw21 : ¬ (w.heap.size + 1 = w2.heap.size) := (by omega); have hmw21 : ¬ (w2.heap.size = w.heap.size + 1) := (by omega); have hlw2w10 : w1.heap.size < w2.heap.size := (by first | omega | (simp at *; omega)); have hnw2w10 : ¬ (w1.heap.size = w2.heap.size) := (by omega); have hmw2w10 : ¬ (w2.heap.size = w1.heap.size) := (by omega); have hBw2 : Below w.heap.size w w2 := Below.trans (by go_grown) (hb.mono (by first | go_size | (simp; omega))); obtain ⟨hcw2, hfw2⟩ := bcell hb; (try simp only [World.size_alloc, World.size_setCell, World.size_drew] at hcw2 hfw2); clear hb)
  go_wp2_with fail
  (refine (xor_d a t b s _).mono ?_; rintro _ w3 ⟨rfl, hb⟩; have hzw3 := hb.size; (try simp only [World.size_alloc, World.size_setCell, World.size_drew] at hzw3); have hlw30 : w.heap.size < w3.heap.size := (by first | omega | (simp at *; omega)); have hnw30 : ¬ (w.heap.size = w3.heap.size) := (by omega); have hmw30 : ¬ (w3.heap.size = w.heap.size) := (by omega); have hlw31 : w.heap.size + 1 < w3.heap.size := (by first | omega | (simp at *; omega)); have hnw31 : ¬ (w.heap.size + 1 = w3.heap.size) := (by omega); have hmw31 : ¬ (w3.heap.size = w.heap.size + 1) := (by omega); have hlw3w10 : w1.heap.size < w3.heap.size := (by first | omega | (simp at *; omega)); have hnw3w10 : ¬ (w1.heap.size = w3.heap.size) := (by omega); have hmw3w10 : ¬ (w3.heap.size = w1.heap.size) := (by omega); have hlw3w20 : w2.heap.size < w3.heap.size := (by first | omega | (simp at *; omega)); have hnw3w20 : ¬ (w2.heap.size = w3.heap.size) := (by omega); have hmw3w20 : ¬ (w3.heap.size = w2.heap.size) := (by omega); have hBw3 : Below w.heap.size w w3 := Below.trans (by go_grown) (hb.mono (by first | go_size | (simp; omega))); obtain ⟨hcw3, hfw3⟩ := bcell hb; (try simp only [World.size_alloc, World.size_setCell, World.size_drew] at hcw3 hfw3); clear hb)
  go_wp2_with fail
  (refine (awake_c _).mono ?_; rintro _ w4 ⟨rfl, hb⟩; have hzw4 := hb.size; (try simp only [World.size_alloc, World.size_setCell, World.size_drew] at hzw4); have hBw4 : Below w.heap.size w w4 := Below.trans (by go_grown) (hb.mono (by first | go_size | (simp; omega))); obtain ⟨hcw4, hfw4⟩ := bcell hb; (try simp only [World.size_alloc, World.size_setCell, World.size_drew] at hcw4 hfw4); clear hb)
  go_wp2
  go_ret
  exact ⟨rfl, by go_grown⟩
end Go.Proofs.Ytbbiegbfoimcaaa
