/-
  WheelWhole: its walk.
-/
import Derived.Test.YtkabpnchfhkhgaaWhole12
import Derived.Test.YtkabpnchfhkhgaaAwake12
set_option linter.unusedSimpArgs false
set_option linter.unusedVariables false
namespace Go.Proofs.Ytkabpnchfhkhgaa
open Go.RowKit Go.PlainAid

theorem part_zF {x : Int} (h : -9223372036854775808 ≤ x ∧ x ≤ 9223372036854775807) : Part (zF x) := by
  by_cases hx : x.natAbs ≤ 1099511627776
  · exact .inr ⟨x, zw_zF (by rw [p53]; omega), hx⟩
  · exact .inl (.inl ⟨_, zF_far (by omega) (by omega)⟩)
theorem bad_zF {x : Int} (h : -9223372036854775808 ≤ x ∧ x ≤ 9223372036854775807) (hx : 1099511627776 < x.natAbs) : Bad (zF x) := .inl ⟨_, zF_far (by omega) (by omega)⟩
/-- A number of eighths, brought to 0 to 7. -/
def eighth (a : Int) : Int := (a.tmod 8 + 8).tmod 8
theorem eighth_may (a : Int) : (-7 ≤ a.tmod 8 ∧ a.tmod 8 ≤ 7) ∧ 0 ≤ eighth a ∧ eighth a ≤ 7 := by
  have ht : -7 ≤ a.tmod 8 ∧ a.tmod 8 ≤ 7 := by
    rcases Int.lt_or_le a 0 with h | h
    · have e : a = -(-a) := by omega
      rw [e, Int.neg_tmod, Int.tmod_eq_emod_of_nonneg (by omega)]
      omega
    · rw [Int.tmod_eq_emod_of_nonneg h]
      omega
  refine ⟨ht, ?_⟩
  unfold eighth
  rw [Int.tmod_eq_emod_of_nonneg (by omega)]
  omega
/-- A whole number and eighths: what the walk and Whole have of it. -/
theorem eighths_c {x p : Int} (hx : x.natAbs ≤ 1099511627776) (hp : 0 ≤ p ∧ p ≤ 7) : ∃ K R, (∀ (t : TypeId) (W : World), (binOp .quo t (.float .f64 (zF p)) (.float .f64 4620693217682128896)).run Try.prog W = .ok (.float .f64 K) W) ∧
    (∀ (t : TypeId) (W : World), (binOp .add t (.float .f64 (zF x)) (.float .f64 K)).run Try.prog W = .ok (.float .f64 R) W) ∧ Part R ∧ (p ≠ 0 → Bad R) ∧ (p = 0 → R = zF x) := by
  obtain ⟨R, hR, hz, h0⟩ := add8 hx hp
  have hB : p ≠ 0 → Bad R := fun h => .inr ⟨_, hz, by omega, by omega, by omega⟩
  refine ⟨fz false p 3, R, fun t W => run_float_arith W .quo t .f64 _ _ _ (quo8 hp), fun t W => run_float_arith W .add t .f64 _ _ _ hR, ?_, hB, h0⟩
  by_cases h : p = 0
  · rw [h0 h]; exact .inr ⟨x, zw_zF (by rw [p53]; omega), hx⟩
  · exact .inl (hB h)
theorem plain0_c (w : World) : Calls Try.prog 15 #[.complex .f64 0 0, .int .i64 0, .int .i64 0] w fun e w' => e = .returned (.bool true) ∧ Below w.heap.size w w' := by
  have := plain_c 0 0 (by decide) (by decide) w
  unfold cV at this
  rw [zF_zero] at this
  exact this
set_option maxRecDepth 100000 in
set_option maxHeartbeats 16000000 in
/-- Far numbers. -/
theorem whole_far (x y : Int) (a b : Int) (hx : -9223372036854775808 ≤ x ∧ x ≤ 9223372036854775807) (hy : -9223372036854775808 ≤ y ∧ y ≤ 9223372036854775807) (hf : x < -1099511627776 ∨ 1099511627776 < x ∨ y < -1099511627776 ∨ 1099511627776 < y) (w : World) :
    Calls Try.prog 4 #[.int .i64 x, .int .i64 y, .agg #[.int .i64 a, .int .i64 b]] w fun e w' => e = .returned (.bool true) ∧ Below w.heap.size w w' := by
  have hcx := fun W => conv_zF x W
  have hcy := fun W => conv_zF y W
  have h1 : x < -1099511627776 ∨ (¬ x < -1099511627776 ∧ 1099511627776 < x) ∨ (¬ x < -1099511627776 ∧ ¬ 1099511627776 < x ∧ y < -1099511627776) ∨ (¬ x < -1099511627776 ∧ ¬ 1099511627776 < x ∧ ¬ y < -1099511627776 ∧ 1099511627776 < y) := by omega
  by_cases hn : -1099511627779 < x ∧ x < 1099511627779 ∧ -1099511627779 < y ∧ y < 1099511627779
  · obtain ⟨n1, n2, n3, n4⟩ := hn
    clear hf hx hy hcx hcy
    rcases h1 with g1 | ⟨g1, g2⟩ | ⟨g1, g2, g3⟩ | ⟨g1, g2, g3, g4⟩
    all_goals
      have hB : Below w.heap.size w w := Below.refl _ _
      go_enter Try.func4, Try.ntmps4
      go_wp2_with fail
      ((with_reducible refine (awake12_c _).mono ?_); rintro _ u1 ⟨rfl, hb⟩)
      have hz := hb.size
      (try simp only [World.size_alloc, World.size_setCell, World.size_drew] at hz)
      have hB' : Below w.heap.size w u1 := by
          refine kb ?_ hb
          go_grown
      clear hb hz
      have hB := hB'; clear hB'
      have hsz := hB.size
      go_wp2
      go_ret
      exact ⟨rfl, by go_grown⟩
  · have HN := Lib.hid (fun W => whole_no (zF x) (zF y) (part_zF hx) (part_zF hy) (by
      by_cases h : 1099511627776 < x.natAbs
      · exact .inl (bad_zF hx h)
      · exact .inr (bad_zF hy (by omega))) W)
    have h2 : ¬ (-1099511627779 < x) ∨ (-1099511627779 < x ∧ ¬ x < 1099511627779) ∨ (-1099511627779 < x ∧ x < 1099511627779 ∧ ¬ -1099511627779 < y) ∨ (-1099511627779 < x ∧ x < 1099511627779 ∧ -1099511627779 < y ∧ ¬ y < 1099511627779) := by omega
    clear hn hf hx hy
    rcases h1 with g1 | ⟨g1, g2⟩ | ⟨g1, g2, g3⟩ | ⟨g1, g2, g3, g4⟩
    all_goals
      rcases h2 with n1 | ⟨n1, n2⟩ | ⟨n1, n2, n3⟩ | ⟨n1, n2, n3, n4⟩
      all_goals first
        | (exfalso; omega)
        | skip
    all_goals
      generalize zF x = X at *
      generalize zF y = Y at *
      have hB : Below w.heap.size w w := Below.refl _ _
      go_enter Try.func4, Try.ntmps4
      go_wp2_with fail
      ((with_reducible refine (HN.out _).mono ?_); rintro _ u1 ⟨rfl, hb⟩)
      have hz := hb.size
      (try simp only [World.size_alloc, World.size_setCell, World.size_drew] at hz)
      have hB' : Below w.heap.size w u1 := by
          refine kb ?_ hb
          go_grown
      clear hb hz
      have hB := hB'; clear hB'
      have hsz := hB.size
      go_wp2_with fail
      ((with_reducible refine (plain0_c _).mono ?_); rintro _ u2 ⟨rfl, hb⟩)
      have hz := hb.size
      (try simp only [World.size_alloc, World.size_setCell, World.size_drew] at hz)
      have hB' : Below w.heap.size w u2 := by
          refine kb ?_ hb
          go_grown
      clear hB hsz
      clear hb hz
      have hB := hB'; clear hB'
      have hsz := hB.size
      go_wp2_with fail
      ((with_reducible refine (awake12_c _).mono ?_); rintro _ u3 ⟨rfl, hb⟩)
      have hz := hb.size
      (try simp only [World.size_alloc, World.size_setCell, World.size_drew] at hz)
      have hB' : Below w.heap.size w u3 := by
          refine kb ?_ hb
          go_grown
      clear hB hsz
      clear hb hz
      have hB := hB'; clear hB'
      have hsz := hB.size
      go_wp2
      go_ret
      exact ⟨rfl, by go_grown⟩
set_option maxRecDepth 100000 in
set_option maxHeartbeats 16000000 in
theorem whole_near (x y : Int) (a b : Int) (hx : -1099511627776 ≤ x ∧ x ≤ 1099511627776) (hy : -1099511627776 ≤ y ∧ y ≤ 1099511627776) (w : World) :
    Calls Try.prog 4 #[.int .i64 x, .int .i64 y, .agg #[.int .i64 a, .int .i64 b]] w fun e w' => e = .returned (.bool true) ∧ Below w.heap.size w w' := by
  have hcx := fun W => conv_zF x W
  have hcy := fun W => conv_zF y W
  have hcp := fun W => conv_zF (eighth a) W
  have hcq := fun W => conv_zF (eighth b) W
  obtain ⟨ha, hp⟩ := eighth_may a
  obtain ⟨hb', hq⟩ := eighth_may b
  obtain ⟨K1, R1, q1, s1, P1, B1, Z1⟩ := eighths_c (x := x) (p := eighth a) (by omega) hp
  obtain ⟨K2, R2, q2, s2, P2, B2, Z2⟩ := eighths_c (x := y) (p := eighth b) (by omega) hq
  have w1 : IntKind.i64.wrap (a.tmod 8) = a.tmod 8 := IntWalk.i64_in _ (by omega)
  have w2 : IntKind.i64.wrap (a.tmod 8 + 8) = a.tmod 8 + 8 := IntWalk.i64_in _ (by omega)
  have w3 : IntKind.i64.wrap (eighth a) = eighth a := IntWalk.i64_in _ (by omega)
  have w4 : IntKind.i64.wrap (b.tmod 8) = b.tmod 8 := IntWalk.i64_in _ (by omega)
  have w5 : IntKind.i64.wrap (b.tmod 8 + 8) = b.tmod 8 + 8 := IntWalk.i64_in _ (by omega)
  have w6 : IntKind.i64.wrap (eighth b) = eighth b := IntWalk.i64_in _ (by omega)
  have w7 : (a.tmod 8 + 8).tmod 8 = eighth a := rfl
  have w8 : (b.tmod 8 + 8).tmod 8 = eighth b := rfl
  have g1 : ¬ x < -1099511627776 := by omega
  have g2 : ¬ 1099511627776 < x := by omega
  have g3 : ¬ y < -1099511627776 := by omega
  have g4 : ¬ 1099511627776 < y := by omega
  have hxs : x.natAbs ≤ 1099511627776 := by omega
  have hys : y.natAbs ≤ 1099511627776 := by omega
  have HW := Lib.hid (fun W => whole_c x y hxs hys (zF x) (zF y) (zw_zF (by rw [p53]; omega)) (zw_zF (by rw [p53]; omega)) W)
  have HBx := Lib.hid (fun W => back_c x W)
  have HBy := Lib.hid (fun W => back_c y W)
  have HPl := Lib.hid (fun W => plain_c (backI x) (backI y) (by have := backI_may x; rw [p53]; omega) (by have := backI_may y; rw [p53]; omega) W)
  have hcase : eighth a ≠ 0 ∨ (eighth a = 0 ∧ eighth b ≠ 0) ∨ (eighth a = 0 ∧ eighth b = 0) := by omega
  generalize eighth a = p at *
  generalize eighth b = q at *
  clear ha hb' hp hq hx hy hxs hys
  rcases hcase with h0 | ⟨h0, h1⟩ | ⟨h0, h1⟩
  · have HN := Lib.hid (fun W => whole_no R1 R2 P1 P2 (.inl (B1 h0)) W)
    have hd : (p != 0) = true := by simpa using h0
    clear HW HBx HBy HPl P1 P2 B1 B2 Z1 Z2 h0
    generalize zF x = X at *
    generalize zF y = Y at *
    generalize zF p = P at *
    generalize zF q = Q at *
    have hB : Below w.heap.size w w := Below.refl _ _
    go_enter Try.func4, Try.ntmps4
    go_wp2_with fail
    ((with_reducible refine (HN.out _).mono ?_); rintro _ u1 ⟨rfl, hb⟩)
    have hz := hb.size
    (try simp only [World.size_alloc, World.size_setCell, World.size_drew] at hz)
    have hB' : Below w.heap.size w u1 := by
        refine kb ?_ hb
        go_grown
    clear hb hz
    have hB := hB'; clear hB'
    have hsz := hB.size
    go_wp2_with fail
    ((with_reducible refine (plain0_c _).mono ?_); rintro _ u2 ⟨rfl, hb⟩)
    have hz := hb.size
    (try simp only [World.size_alloc, World.size_setCell, World.size_drew] at hz)
    have hB' : Below w.heap.size w u2 := by
        refine kb ?_ hb
        go_grown
    clear hB hsz
    clear hb hz
    have hB := hB'; clear hB'
    have hsz := hB.size
    go_wp2_with fail
    ((with_reducible refine (awake12_c _).mono ?_); rintro _ u3 ⟨rfl, hb⟩)
    have hz := hb.size
    (try simp only [World.size_alloc, World.size_setCell, World.size_drew] at hz)
    have hB' : Below w.heap.size w u3 := by
        refine kb ?_ hb
        go_grown
    clear hB hsz
    clear hb hz
    have hB := hB'; clear hB'
    have hsz := hB.size
    go_wp2
    go_ret
    exact ⟨rfl, by go_grown⟩
  · have HN := Lib.hid (fun W => whole_no R1 R2 P1 P2 (.inr (B2 h1)) W)
    have hd : (p != 0) = false := by simpa using h0
    have hd2 : (q != 0) = true := by simpa using h1
    clear HW HBx HBy HPl P1 P2 B1 B2 Z1 Z2 h0 h1
    generalize zF x = X at *
    generalize zF y = Y at *
    generalize zF p = P at *
    generalize zF q = Q at *
    have hB : Below w.heap.size w w := Below.refl _ _
    go_enter Try.func4, Try.ntmps4
    go_wp2_with fail
    ((with_reducible refine (HN.out _).mono ?_); rintro _ u1 ⟨rfl, hb⟩)
    have hz := hb.size
    (try simp only [World.size_alloc, World.size_setCell, World.size_drew] at hz)
    have hB' : Below w.heap.size w u1 := by
        refine kb ?_ hb
        go_grown
    clear hb hz
    have hB := hB'; clear hB'
    have hsz := hB.size
    go_wp2_with fail
    ((with_reducible refine (plain0_c _).mono ?_); rintro _ u2 ⟨rfl, hb⟩)
    have hz := hb.size
    (try simp only [World.size_alloc, World.size_setCell, World.size_drew] at hz)
    have hB' : Below w.heap.size w u2 := by
        refine kb ?_ hb
        go_grown
    clear hB hsz
    clear hb hz
    have hB := hB'; clear hB'
    have hsz := hB.size
    go_wp2_with fail
    ((with_reducible refine (awake12_c _).mono ?_); rintro _ u3 ⟨rfl, hb⟩)
    have hz := hb.size
    (try simp only [World.size_alloc, World.size_setCell, World.size_drew] at hz)
    have hB' : Below w.heap.size w u3 := by
        refine kb ?_ hb
        go_grown
    clear hB hsz
    clear hb hz
    have hB := hB'; clear hB'
    have hsz := hB.size
    go_wp2
    go_ret
    exact ⟨rfl, by go_grown⟩
  · have hd : (p != 0) = false := by simpa using h0
    have hd2 : (q != 0) = false := by simpa using h1
    rw [← Z1 h0, ← Z2 h1] at HW
    clear P1 P2 B1 B2 Z1 Z2 h0 h1
    generalize backI x = bx at *
    generalize backI y = bY at *
    unfold cV at *
    generalize zF x = X at *
    generalize zF y = Y at *
    generalize zF p = P at *
    generalize zF q = Q at *
    generalize zF bx = BX at *
    generalize zF bY = BY at *
    have hB : Below w.heap.size w w := Below.refl _ _
    go_enter Try.func4, Try.ntmps4
    go_wp2_with fail
    ((with_reducible refine (HW.out _).mono ?_); rintro _ u1 ⟨rfl, hb⟩)
    have hz := hb.size
    (try simp only [World.size_alloc, World.size_setCell, World.size_drew] at hz)
    have hB' : Below w.heap.size w u1 := by
        refine kb ?_ hb
        go_grown
    clear hb hz
    have hB := hB'; clear hB'
    have hsz := hB.size
    go_wp2_with fail
    ((with_reducible refine (HBx.out _).mono ?_); rintro _ u2 ⟨rfl, hb⟩)
    have hz := hb.size
    (try simp only [World.size_alloc, World.size_setCell, World.size_drew] at hz)
    have hB' : Below w.heap.size w u2 := by
        refine kb ?_ hb
        go_grown
    clear hB hsz
    clear hb hz
    have hB := hB'; clear hB'
    have hsz := hB.size
    go_wp2_with fail
    ((with_reducible refine (HBy.out _).mono ?_); rintro _ u3 ⟨rfl, hb⟩)
    have hz := hb.size
    (try simp only [World.size_alloc, World.size_setCell, World.size_drew] at hz)
    have hB' : Below w.heap.size w u3 := by
        refine kb ?_ hb
        go_grown
    clear hB hsz
    clear hb hz
    have hB := hB'; clear hB'
    have hsz := hB.size
    go_wp2_with fail
    ((with_reducible refine (HPl.out _).mono ?_); rintro _ u4 ⟨rfl, hb⟩)
    have hz := hb.size
    (try simp only [World.size_alloc, World.size_setCell, World.size_drew] at hz)
    have hB' : Below w.heap.size w u4 := by
        refine kb ?_ hb
        go_grown
    clear hB hsz
    clear hb hz
    have hB := hB'; clear hB'
    have hsz := hB.size
    go_wp2_with fail
    ((with_reducible refine (awake12_c _).mono ?_); rintro _ u5 ⟨rfl, hb⟩)
    have hz := hb.size
    (try simp only [World.size_alloc, World.size_setCell, World.size_drew] at hz)
    have hB' : Below w.heap.size w u5 := by
        refine kb ?_ hb
        go_grown
    clear hB hsz
    clear hb hz
    have hB := hB'; clear hB'
    have hsz := hB.size
    go_wp2
    go_ret
    exact ⟨rfl, by go_grown⟩
theorem whole_walk (x : Int) (hx : -9223372036854775808 ≤ x ∧ x ≤ 9223372036854775807) (y : Int) (hy : -9223372036854775808 ≤ y ∧ y ≤ 9223372036854775807) (a b : Int) (w : World) :
    Calls Try.prog 4 #[.int .i64 x, .int .i64 y, .agg #[.int .i64 a, .int .i64 b]] w fun e w' => e = .returned (.bool true) ∧ Below w.heap.size w w' := by
  by_cases h : x < -1099511627776 ∨ 1099511627776 < x ∨ y < -1099511627776 ∨ 1099511627776 < y
  · exact whole_far x y a b hx hy h w
  · exact whole_near x y a b (by omega) (by omega) w
end Go.Proofs.Ytkabpnchfhkhgaa
