/-
  The chapter's examples hold: what 'awake' comes to.
-/
import Derived.Test.YtbbiegbfoimcaaaTaint3
set_option linter.unusedSimpArgs false
set_option linter.unusedVariables false
namespace Go.Proofs.Ytbbiegbfoimcaaa
open Go.RowKit

theorem and_ex (w : World) : Calls Try.prog 12 #[.agg #[.int .u8 15, .int .u8 3], .agg #[.int .u8 5, .int .u8 0]] w fun e w' => e = .returned (.agg #[.int .u8 5, .int .u8 1]) ∧ Below w.heap.size w w' :=
  (and_c 15#8 3#8 5#8 0#8 w).mono fun _ _ ⟨h1, h2⟩ => ⟨h1.trans rfl, h2⟩
theorem of5_ex (w : World) : Calls Try.prog 31 #[.int .i64 5] w fun e w' => e = .returned (.agg #[.int .u8 5, .int .u8 0]) ∧ Below w.heap.size w w' :=
  (of_c 5 w).mono fun _ _ ⟨h1, h2⟩ => ⟨h1.trans rfl, h2⟩
theorem of0_ex (w : World) : Calls Try.prog 31 #[.int .i64 0] w fun e w' => e = .returned (.agg #[.int .u8 0, .int .u8 0]) ∧ Below w.heap.size w w' :=
  (of_c 0 w).mono fun _ _ ⟨h1, h2⟩ => ⟨h1.trans rfl, h2⟩
theorem zero2_ex (w : World) : Calls Try.prog 24 #[.agg #[.int .u8 2, .int .u8 1]] w fun e w' => e = .returned (TBit false false) ∧ Below w.heap.size w w' :=
  (zero_c 2#8 1#8 w).mono fun _ _ ⟨h1, h2⟩ => ⟨h1.trans rfl, h2⟩
theorem zero0_ex (w : World) : Calls Try.prog 24 #[.agg #[.int .u8 0, .int .u8 0]] w fun e w' => e = .returned (TBit true false) ∧ Below w.heap.size w w' :=
  (zero_c 0#8 0#8 w).mono fun _ _ ⟨h1, h2⟩ => ⟨h1.trans rfl, h2⟩

set_option maxHeartbeats 400000 in
theorem awake_c (w : World) : Calls Try.prog 15 #[] w fun e w' => e = .returned (.bool true) ∧ Below w.heap.size w w' := by
  go_enter Try.func15, Try.ntmps15
  go_wp2_with fail
  (refine (of5_ex _).mono ?_; rintro _ w1 ⟨rfl, hb⟩; have hzw1 := hb.size; (try simp only [World.size_alloc, World.size_setCell, World.size_drew] at hzw1); have hBw1 : Below w.heap.size w w1 := Below.trans (by go_grown) (hb.mono (by first | go_size | (simp; omega))); obtain ⟨hcw1, hfw1⟩ := bcell hb; (try simp only [World.size_alloc, World.size_setCell, World.size_drew] at hcw1 hfw1); clear hb)
  go_wp2_with fail
  (refine (and_ex _).mono ?_; rintro _ w2 ⟨rfl, hb⟩; have hzw2 := hb.size; (try simp only [World.size_alloc, World.size_setCell, World.size_drew] at hzw2); have hBw2 : Below w.heap.size w w2 := Below.trans (by go_grown) (hb.mono (by first | go_size | (simp; omega))); obtain ⟨hcw2, hfw2⟩ := bcell hb; (try simp only [World.size_alloc, World.size_setCell, World.size_drew] at hcw2 hfw2); clear hb)
  go_wp2_with fail
  (refine (zero2_ex _).mono ?_; rintro _ w3 ⟨rfl, hb⟩; have hzw3 := hb.size; (try simp only [World.size_alloc, World.size_setCell, World.size_drew] at hzw3); have hBw3 : Below w.heap.size w w3 := Below.trans (by go_grown) (hb.mono (by first | go_size | (simp; omega))); obtain ⟨hcw3, hfw3⟩ := bcell hb; (try simp only [World.size_alloc, World.size_setCell, World.size_drew] at hcw3 hfw3); clear hb)
  go_wp2_with fail
  (refine (of0_ex _).mono ?_; rintro _ w4 ⟨rfl, hb⟩; have hzw4 := hb.size; (try simp only [World.size_alloc, World.size_setCell, World.size_drew] at hzw4); have hBw4 : Below w.heap.size w w4 := Below.trans (by go_grown) (hb.mono (by first | go_size | (simp; omega))); obtain ⟨hcw4, hfw4⟩ := bcell hb; (try simp only [World.size_alloc, World.size_setCell, World.size_drew] at hcw4 hfw4); clear hb)
  go_wp2_with fail
  (refine (zero0_ex _).mono ?_; rintro _ w5 ⟨rfl, hb⟩; have hzw5 := hb.size; (try simp only [World.size_alloc, World.size_setCell, World.size_drew] at hzw5); have hBw5 : Below w.heap.size w w5 := Below.trans (by go_grown) (hb.mono (by first | go_size | (simp; omega))); obtain ⟨hcw5, hfw5⟩ := bcell hb; (try simp only [World.size_alloc, World.size_setCell, World.size_drew] at hcw5 hfw5); clear hb)
  go_wp2_with fail
  go_ret
  exact ⟨rfl, by go_grown⟩
end Go.Proofs.Ytbbiegbfoimcaaa
