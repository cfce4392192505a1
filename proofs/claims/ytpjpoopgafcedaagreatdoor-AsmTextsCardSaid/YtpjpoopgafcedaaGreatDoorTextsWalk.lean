/-
  AsmTexts returns true: the walk.
-/
import Derived.Test.YtpjpoopgafcedaaGreatDoorAsmr
import Derived.Test.YtpjpoopgafcedaaGreatDoorLawKit
set_option linter.unusedSimpArgs false
set_option linter.unusedVariables false
namespace Go.Proofs.YtpjpoopgafcedaaGreatDoor
open Go.RowKit Go.PlainAid Go.Joins

set_option maxRecDepth 100000 in
set_option maxHeartbeats 1000000 in
theorem texts_out (S : ByteArray) (a : Int) (h : (300 < S.size ∧ S.size ≤ 65536) ∨ 70000 < S.size) (w : World) (hl : Laid w) : Calls Tryz.prog 3 #[.string S, .int .i64 a] w (LawEnd w) := by
  have d1 : decide ((300 : Int) < (S.size : Int)) = true := decide_eq_true (by omega)
  have HA := Lib.hid awake_c
  obtain ⟨d2, d3⟩ | ⟨d2, d3⟩ : (decide ((S.size : Int) ≤ 65536) = true ∧ decide ((70000 : Int) < (S.size : Int)) = false) ∨ (decide ((S.size : Int) ≤ 65536) = false ∧ decide ((70000 : Int) < (S.size : Int)) = true) := by
    rcases h with h | h
    · exact .inl ⟨decide_eq_true (by omega), decide_eq_false (by omega)⟩
    · exact .inr ⟨decide_eq_false (by omega), decide_eq_true (by omega)⟩
  all_goals
    clear h
    go_enter Tryz.func3, Tryz.ntmps3
    go_wp2_with fail
    ((with_reducible refine (HA.out _ (hl.below (by go_grown))).mono ?_); rintro _ u ⟨rfl, hb⟩)
    have hz := hb.size
    (try simp only [World.size_alloc, World.size_setCell, World.size_drew] at hz)
    have hB' : Below w.heap.size w u := by
        refine kb ?_ hb
        go_grown
    clear hb hz
    have hB := hB'; clear hB'
    have hsz := hB.size
    go_wp2
    go_ret
    exact ⟨rfl, by go_grown⟩
set_option maxRecDepth 100000 in
set_option maxHeartbeats 1000000 in
theorem texts_long (s : List UInt8) (a : Int) (h1 : 65536 < s.length) (h2 : s.length ≤ 70000) (w : World) (hl : Laid w) : Calls Tryz.prog 3 #[.string (txB s), .int .i64 a] w (LawEnd w) := by
  have hz := txB_size s
  have d1 : decide ((300 : Int) < ((txB s).size : Int)) = true := decide_eq_true (by omega)
  have d2 : decide (((txB s).size : Int) ≤ 65536) = false := decide_eq_false (by omega)
  have d3 : decide ((70000 : Int) < ((txB s).size : Int)) = false := decide_eq_false (by omega)
  have d4 : decide ((65536 : Int) < ((txB s).size : Int)) = true := decide_eq_true (by omega)
  have HA := Lib.hid awake_c
  have HL := Lib.hid (fun W => asmp_long s h1 a W)
  clear h1 h2 hz
  generalize txB s = S at *
  go_enter Tryz.func3, Tryz.ntmps3
  go_wp2_with fail
  ((with_reducible refine (HL.out _).mono ?_); rintro _ u1 ⟨v1, rfl, hown1, hb⟩)
  have hs_u1 := Lib.hid hb
  have hz := hb.size
  (try simp only [World.size_alloc, World.size_setCell, World.size_drew] at hz)
  have hB' : Below w.heap.size w u1 := by
      refine kb ?_ hb
      go_grown
  clear hb hz
  have hB := hB'; clear hB'
  have hsz := hB.size
  obtain ⟨p1, c1, rfl⟩ := own_form hown1
  clear hown1 hs_u1
  go_wp2_with fail
  ((with_reducible refine (HA.out _ (hl.below hB)).mono ?_); rintro _ u2 ⟨rfl, hb⟩)
  have hz := hb.size
  (try simp only [World.size_alloc, World.size_setCell, World.size_drew] at hz)
  have hB' : Below w.heap.size w u2 := by
      refine kb ?_ hb
      go_grown
  clear hB hsz
  clear hb hz
  have hB := hB'; clear hB'
  have hsz := hB.size
  go_wp2
  go_ret
  exact ⟨rfl, by go_grown⟩
set_option maxRecDepth 100000 in
set_option maxHeartbeats 1000000 in
theorem texts_short (s : List UInt8) (a : Int) (ha : -9223372036854775808 ≤ a ∧ a ≤ 9223372036854775807) (h : s.length ≤ 300) (w : World) (hl : Laid w) (hE : LaidE w) :
    Calls Tryz.prog 3 #[.string (txB s), .int .i64 a] w (LawEnd w) := by
  have hz := txB_size s
  have d1 : decide ((300 : Int) < ((txB s).size : Int)) = false := decide_eq_false (by omega)
  have d3 : decide ((70000 : Int) < ((txB s).size : Int)) = false := decide_eq_false (by omega)
  have d4 : decide ((65536 : Int) < ((txB s).size : Int)) = false := decide_eq_false (by omega)
  have HA := Lib.hid awake_c
  have HL := Lib.hid (fun W hl hE => asmp_c s (by omega) a ha W hl hE)
  have HD := Lib.hid (fun W => asmr_c s (by omega) a ha W)
  have hlen := asm_lenT a (linesL s) [] 1
  have hsum := lines_sumT s
  have HM := Lib.hid (show (asmR (linesL s) a [] 1).1.length ≤ 1000000 by simp only [List.length_nil] at hlen; omega)
  generalize asmR (linesL s) a [] 1 = r at *
  obtain ⟨c, i, e⟩ := r
  generalize txB s = S at *
  clear h ha hz hlen hsum
  go_enter Tryz.func3, Tryz.ntmps3
  go_wp2_with fail
  ((with_reducible refine (HL.out _ (hl.below (by go_grown)) (hE.below (by go_grown))).mono ?_); rintro _ u1 ⟨v1, rfl, hown1, hb⟩)
  have hs_u1 := Lib.hid hb
  have hz := hb.size
  (try simp only [World.size_alloc, World.size_setCell, World.size_drew] at hz)
  have hB' : Below w.heap.size w u1 := by
      refine kb ?_ hb
      go_grown
  clear hb hz
  have hB := hB'; clear hB'
  have hsz := hB.size
  have H1 := Lib.hid (holds_own hown1)
  obtain ⟨p1, c1, rfl⟩ := own_form hown1
  have hl1 := hl.below hB
  have HBw := Lib.hid hB
  have hsz1 := hB.size
  clear hown1 hs_u1
  go_wp2_with fail
  ((with_reducible refine (HD.out _).mono ?_); rintro _ u2 ⟨v2, rfl, hown2, hb⟩)
  have hs_u2 := Lib.hid hb
  have hz := hb.size
  (try simp only [World.size_alloc, World.size_setCell, World.size_drew] at hz)
  have hB' : Below u1.heap.size u1 u2 := by
      refine kb ?_ hb
      go_grown
  clear hB hsz
  clear hb hz
  have hB := hB'; clear hB'
  have hsz := hB.size
  have H2 := Lib.hid (holds_own hown2)
  obtain ⟨p2, c2, rfl⟩ := own_form hown2
  clear hown2 hs_u2
  go_wp2_with fail
  have hS := same_c _ _ c c u2 (H1.out.below hB) H2.out HM.out
  rw [show (c == c) = true from by simp] at hS
  ((with_reducible refine (hS).mono ?_); rintro _ u3 ⟨rfl, hb⟩)
  have hz := hb.size
  (try simp only [World.size_alloc, World.size_setCell, World.size_drew] at hz)
  have hB' : Below u1.heap.size u1 u3 := by
      refine kb ?_ hb
      go_grown
  clear hB hsz
  clear hb hz
  have hB := hB'; clear hB'
  have hsz := hB.size
  clear hS H1 H2
  go_wp2_with fail
  ((with_reducible refine (HA.out _ (hl1.below hB)).mono ?_); rintro _ u4 ⟨rfl, hb⟩)
  have hz := hb.size
  (try simp only [World.size_alloc, World.size_setCell, World.size_drew] at hz)
  have hB' : Below u1.heap.size u1 u4 := by
      refine kb ?_ hb
      go_grown
  clear hB hsz
  clear hb hz
  have hB := hB'; clear hB'
  have hsz := hB.size
  go_wp2
  go_ret
  exact ⟨rfl, HBw.out.trans (Below.mono (by go_grown : Below u1.heap.size u1 _) hsz1)⟩
theorem texts_walk (s : List UInt8) (hs0 : s.length ≤ 9223372036854775807) (a : Int) (ha : -9223372036854775808 ≤ a ∧ a ≤ 9223372036854775807) (w : World) (hl : Laid w) (hE : LaidE w) :
    Calls Tryz.prog 3 #[.string (txB s), .int .i64 a] w (LawEnd w) := by
  have hz := txB_size s
  by_cases h1 : s.length ≤ 300
  · exact texts_short s a ha h1 w hl hE
  · by_cases h2 : 65536 < s.length ∧ s.length ≤ 70000
    · exact texts_long s a h2.1 h2.2 w hl
    · exact texts_out _ a (by omega) w hl
end Go.Proofs.YtpjpoopgafcedaaGreatDoor
