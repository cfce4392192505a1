/-
  AsmLists returns true: the walk.
-/
import Derived.Test.YtpjpoopgafcedaaDoorListg
import Derived.Test.YtpjpoopgafcedaaDoorListr
import Derived.Test.YtpjpoopgafcedaaDoorLawKit
set_option linter.unusedSimpArgs false
set_option linter.unusedVariables false
namespace Go.Proofs.YtpjpoopgafcedaaDoor
open Go.RowKit Go.PlainAid Go.Joins

set_option maxRecDepth 100000 in
set_option maxHeartbeats 1000000 in
theorem lists_out (p : Option Addr) (L c : Nat) (a : Int) (h : (200 < L ∧ L ≤ 65536) ∨ 70000 < L) (w : World) (hl : Laid w) : Calls Tryd.prog 5 #[.slice p L c, .int .i64 a] w (LawEnd w) := by
  have d1 : decide ((200 : Int) < (L : Int)) = true := decide_eq_true (by omega)
  have HA := Lib.hid awake_c
  obtain ⟨d2, d3⟩ | ⟨d2, d3⟩ : (decide ((L : Int) ≤ 65536) = true ∧ decide ((70000 : Int) < (L : Int)) = false) ∨ (decide ((L : Int) ≤ 65536) = false ∧ decide ((70000 : Int) < (L : Int)) = true) := by
    rcases h with h | h
    · exact .inl ⟨decide_eq_true (by omega), decide_eq_false (by omega)⟩
    · exact .inr ⟨decide_eq_false (by omega), decide_eq_true (by omega)⟩
  all_goals
    clear h
    go_enter Tryd.func5, Tryd.ntmps5
    go_wp2_with fail
    ((with_reducible refine (HA.out _ (hl.below (by go_grown))).mono ?_); rintro _ u ⟨rfl, hb⟩)
    have hz := hb.size
    (try simp only [World.size_alloc, World.size_setCell, World.size_drew] at hz)
    have hB' : Below w.heap.size w u := by
        refine kb ?_ hb
        go_grown
    clear hb hz
    have hB := hB'; clear hB'
    have hsz := hB.size
    go_wp2
    go_ret
    exact ⟨rfl, by go_grown⟩
set_option maxRecDepth 100000 in
set_option maxHeartbeats 1000000 in
theorem lists_long (p : Option Addr) (L c : Nat) (a : Int) (h1 : 65536 < L) (h2 : L ≤ 70000) (w : World) (hl : Laid w) : Calls Tryd.prog 5 #[.slice p L c, .int .i64 a] w (LawEnd w) := by
  have d1 : decide ((200 : Int) < (L : Int)) = true := decide_eq_true (by omega)
  have d2 : decide ((L : Int) ≤ 65536) = false := decide_eq_false (by omega)
  have d3 : decide ((70000 : Int) < (L : Int)) = false := decide_eq_false (by omega)
  have d4 : decide ((65536 : Int) < (L : Int)) = true := decide_eq_true (by omega)
  have HA := Lib.hid awake_c
  have HL := Lib.hid (listp_long p L c a h1)
  clear h1 h2
  go_enter Tryd.func5, Tryd.ntmps5
  go_wp2_with fail
  ((with_reducible refine (HL.out _).mono ?_); rintro _ u1 ⟨rfl, hb⟩)
  have hz := hb.size
  (try simp only [World.size_alloc, World.size_setCell, World.size_drew] at hz)
  have hB' : Below w.heap.size w u1 := by
      refine kb ?_ hb
      go_grown
  clear hb hz
  have hB := hB'; clear hB'
  have hsz := hB.size
  go_wp2_with fail
  ((with_reducible refine (HA.out _ (hl.below hB)).mono ?_); rintro _ u2 ⟨rfl, hb⟩)
  have hz := hb.size
  (try simp only [World.size_alloc, World.size_setCell, World.size_drew] at hz)
  have hB' : Below w.heap.size w u2 := by
      refine kb ?_ hb
      go_grown
  clear hB hsz
  clear hb hz
  have hB := hB'; clear hB'
  have hsz := hB.size
  go_wp2
  go_ret
  exact ⟨rfl, by go_grown⟩
set_option maxRecDepth 100000 in
set_option maxHeartbeats 1000000 in
theorem lists_short (l : List Int) (hbs : ∀ x ∈ l, 0 ≤ x ∧ x < 256) (p : Option Addr) (c : Nat) (a : Int) (ha : -9223372036854775808 ≤ a ∧ a ≤ 9223372036854775807) (h : l.length ≤ 200) (w : World) (hv : HoldsC w (.slice p l.length c) l) (hl : Laid w) :
    Calls Tryd.prog 5 #[.slice p l.length c, .int .i64 a] w (LawEnd w) := by
  have d1 : decide ((200 : Int) < (l.length : Int)) = false := decide_eq_false (by omega)
  have d3 : decide ((70000 : Int) < (l.length : Int)) = false := decide_eq_false (by omega)
  have d4 : decide ((65536 : Int) < (l.length : Int)) = false := decide_eq_false (by omega)
  have HA := Lib.hid awake_c
  have HL := Lib.hid (fun W hv hl => listp_c l hbs p c a ha (by omega) W hv hl)
  have HD := Lib.hid (fun W hv => listr_c l hbs p c a ha (by omega) W hv)
  generalize txB (listD l a).1 = S at *
  generalize (listD l a).2.1 = I at *
  generalize (listD l a).2.2 = E at *
  clear h hbs ha
  go_enter Tryd.func5, Tryd.ntmps5
  go_wp2_with fail
  ((with_reducible refine (HL.out _ (hv.below (by go_grown)) (hl.below (by go_grown))).mono ?_); rintro _ u1 ⟨rfl, hb⟩)
  have hz := hb.size
  (try simp only [World.size_alloc, World.size_setCell, World.size_drew] at hz)
  have hB' : Below w.heap.size w u1 := by
      refine kb ?_ hb
      go_grown
  clear hb hz
  have hB := hB'; clear hB'
  have hsz := hB.size
  go_wp2_with fail
  ((with_reducible refine (HD.out _ (hv.below hB)).mono ?_); rintro _ u2 ⟨rfl, hb⟩)
  have hz := hb.size
  (try simp only [World.size_alloc, World.size_setCell, World.size_drew] at hz)
  have hB' : Below w.heap.size w u2 := by
      refine kb ?_ hb
      go_grown
  clear hB hsz
  clear hb hz
  have hB := hB'; clear hB'
  have hsz := hB.size
  go_wp2_with fail
  ((with_reducible refine (HA.out _ (hl.below hB)).mono ?_); rintro _ u3 ⟨rfl, hb⟩)
  have hz := hb.size
  (try simp only [World.size_alloc, World.size_setCell, World.size_drew] at hz)
  have hB' : Below w.heap.size w u3 := by
      refine kb ?_ hb
      go_grown
  clear hB hsz
  clear hb hz
  have hB := hB'; clear hB'
  have hsz := hB.size
  go_wp2
  go_ret
  exact ⟨rfl, by go_grown⟩
theorem lists_walk (l : List Int) (hbs : ∀ x ∈ l, 0 ≤ x ∧ x < 256) (v : Value) (a : Int) (ha : -9223372036854775808 ≤ a ∧ a ≤ 9223372036854775807) (w : World) (hv : HoldsC w v l) (hl : Laid w) :
    Calls Tryd.prog 5 #[v, .int .i64 a] w (LawEnd w) := by
  obtain ⟨p, c, rfl⟩ : ∃ p c, v = .slice p l.length c := by
    rcases hv.1 with ⟨h1, h2⟩ | ⟨g, go, cap, h1, _⟩
    · exact ⟨none, 0, by rw [h1, h2]; rfl⟩
    · exact ⟨_, _, h1⟩
  by_cases h1 : l.length ≤ 200
  · exact lists_short l hbs p c a ha h1 w hv hl
  · by_cases h2 : 65536 < l.length ∧ l.length ≤ 70000
    · exact lists_long p l.length c a h2.1 h2.2 w hl
    · exact lists_out p l.length c a (by omega) w hl
end Go.Proofs.YtpjpoopgafcedaaDoor
