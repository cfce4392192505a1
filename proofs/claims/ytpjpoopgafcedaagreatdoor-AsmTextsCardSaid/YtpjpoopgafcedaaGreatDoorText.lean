/-
  Layer 5's document: what is wrong with a line, and its text.
-/
import Derived.Test.YtpjpoopgafcedaaGreatDoorDigs
set_option linter.unusedSimpArgs false
set_option linter.unusedVariables false
namespace Go.Proofs.YtpjpoopgafcedaaGreatDoor
open Go.RowKit Go.PlainAid

/-- The most that a mode's number may be. -/
def mostD (m : Int) : Int := if wideD m then 65535 else if m < 2 then 0 else 255
/-- What is wrong with a line: of an opcode that is a number of eight bits. -/
def wrongD (b : Nat) (n : Int) : Int := match placeL.getD b none with
  | some p => if n < 0 ∨ mostD ((p % 13 : Nat) : Int) < n then 10 else 0
  | none => 13
theorem find_place (b : Nat) (hb : b < 256) : findR b = (match placeL.getD b none with | some n => ((n / 13 : Nat) : Int) | none => -1) ∧ findM b = (match placeL.getD b none with | some n => ((n % 13 : Nat) : Int) | none => -1) := by
  unfold findR findM
  rw [placeD_byte b hb]
  exact ⟨rfl, rfl⟩
theorem place_lt : ∀ b : Fin 256, (match placeL.getD b.val none with | some n => decide (n < 728) | none => true) = true := by decide +kernel
theorem place_bound (b : Nat) (hb : b < 256) (n : Nat) (h : placeL.getD b none = some n) : n < 728 := by
  have := place_lt ⟨b, hb⟩
  simp only [h] at this
  exact of_decide_eq_true this
theorem find_some (b : Nat) (hb : b < 256) (p : Nat) (h : placeL.getD b none = some p) (w : World) : Calls Tryz.prog 25 #[.int .i64 b] w fun e w' => e = .returned (.tuple #[.int .i64 ((p / 13 : Nat) : Int), .int .i64 ((p % 13 : Nat) : Int)]) ∧ Below w.heap.size w w' := by
  have := find_c (b : Int) w
  rw [(find_place b hb).1, (find_place b hb).2, h] at this
  exact this
theorem find_none (b : Nat) (hb : b < 256) (h : placeL.getD b none = none) (w : World) : Calls Tryz.prog 25 #[.int .i64 b] w fun e w' => e = .returned (.tuple #[.int .i64 (-1), .int .i64 (-1)]) ∧ Below w.heap.size w w' := by
  have := find_c (b : Int) w
  rw [(find_place b hb).1, (find_place b hb).2, h] at this
  exact this
theorem most_ways (m : Nat) : (wideD m = true ∧ mostD m = 65535 ∧ decide ((m : Int) < 2) = false) ∨ (wideD m = false ∧ mostD m = 0 ∧ decide ((m : Int) < 2) = true) ∨ (wideD m = false ∧ mostD m = 255 ∧ decide ((m : Int) < 2) = false) := by
  unfold mostD
  cases h : wideD m
  · by_cases h2 : (m : Int) < 2
    · exact .inr (.inl ⟨rfl, by simp [h2], decide_eq_true h2⟩)
    · exact .inr (.inr ⟨rfl, by simp [h2], decide_eq_false h2⟩)
  · refine .inl ⟨rfl, by simp, decide_eq_false fun h2 => ?_⟩
    unfold wideD at h
    simp only [Bool.or_eq_true, beq_iff_eq] at h
    omega
set_option maxRecDepth 100000 in
set_option maxHeartbeats 1000000 in
theorem wrong_op (b : Nat) (n : Int) (r m : Nat)
    (hF : ∀ w, Calls Tryz.prog 25 #[.int .i64 b] w fun e w' => e = .returned (.tuple #[.int .i64 (r : Int), .int .i64 (m : Int)]) ∧ Below w.heap.size w w') (w : World) :
    Calls Tryz.prog 24 #[.agg #[.int .i64 b, .int .i64 n]] w fun e w' => e = .returned (.int .i64 (if n < 0 ∨ mostD m < n then 10 else 0)) ∧ Below w.heap.size w w' := by
  have HF := Lib.hid hF
  clear hF
  have hr : decide ((r : Int) < 0) = false := decide_eq_false (by omega)
  have HW := Lib.hid (fun w => wide_c m w)
  have hY := most_ways m
  have HV := Lib.hid (show (if n < 0 ∨ mostD m < n then (10 : Int) else 0) = if decide (n < 0) || decide (mostD m < n) then 10 else 0 from by
    by_cases h1 : n < 0 <;> by_cases h2 : mostD m < n <;> simp [h1, h2])
  generalize (if n < 0 ∨ mostD m < n then (10 : Int) else 0) = V at *
  generalize wideD m = X at *
  generalize mostD m = Y at *
  rcases hY with ⟨rfl, rfl, e1⟩ | ⟨rfl, rfl, e1⟩ | ⟨rfl, rfl, e1⟩
  · cases e2 : decide (n < 0) <;> cases e3 : decide ((65535 : Int) < n)
    all_goals
      have hv := HV.out
      rw [e2, e3] at hv
      skip
      go_enter Tryz.func24, Tryz.ntmps24
      go_wp2_with fail
      ((with_reducible refine (HF.out _).mono ?_); rintro _ u ⟨rfl, hb⟩)
      have T : u.cell? ⟨w.heap.size, 0, none⟩ = some (.int .i64 b) ∧ u.cell? ⟨w.heap.size, 1, none⟩ = some (.int .i64 n) := by
          refine ⟨?_, ?_⟩ <;> refine kc hb ?_ <;> (go_simp; first | done | rfl)
      have hz := hb.size
      (try simp only [World.size_alloc, World.size_setCell, World.size_drew] at hz)
      have hlx' : w.heap.size < u.heap.size := by omega
      have hB' : Below w.heap.size w u := by
          refine kb ?_ hb
          go_grown
      clear hb hz
      obtain ⟨hx_0, hx_1⟩ := T
      have hlx := hlx'; clear hlx'
      have hnx0 : ¬ (w.heap.size = u.heap.size) := by omega
      have hnx1 : ¬ (w.heap.size = u.heap.size + 1) := by omega
      have hkx1 : w.heap.size < u.heap.size + 1 := by omega
      have hnx2 : ¬ (w.heap.size = u.heap.size + 1 + 1) := by omega
      have hkx2 : w.heap.size < u.heap.size + 1 + 1 := by omega
      have hB := hB'; clear hB'
      have hsz := hB.size
      go_wp2_with (go_at_call 38; (with_reducible refine (HW.out _).mono ?_); rintro _ _ ⟨rfl, rfl⟩)
      go_ret
      exact ⟨ret_i64 hv.symm, by go_grown⟩
  · cases e2 : decide (n < 0) <;> cases e3 : decide ((0 : Int) < n)
    all_goals
      have hv := HV.out
      rw [e2, e3] at hv
      skip
      go_enter Tryz.func24, Tryz.ntmps24
      go_wp2_with fail
      ((with_reducible refine (HF.out _).mono ?_); rintro _ u ⟨rfl, hb⟩)
      have T : u.cell? ⟨w.heap.size, 0, none⟩ = some (.int .i64 b) ∧ u.cell? ⟨w.heap.size, 1, none⟩ = some (.int .i64 n) := by
          refine ⟨?_, ?_⟩ <;> refine kc hb ?_ <;> (go_simp; first | done | rfl)
      have hz := hb.size
      (try simp only [World.size_alloc, World.size_setCell, World.size_drew] at hz)
      have hlx' : w.heap.size < u.heap.size := by omega
      have hB' : Below w.heap.size w u := by
          refine kb ?_ hb
          go_grown
      clear hb hz
      obtain ⟨hx_0, hx_1⟩ := T
      have hlx := hlx'; clear hlx'
      have hnx0 : ¬ (w.heap.size = u.heap.size) := by omega
      have hnx1 : ¬ (w.heap.size = u.heap.size + 1) := by omega
      have hkx1 : w.heap.size < u.heap.size + 1 := by omega
      have hnx2 : ¬ (w.heap.size = u.heap.size + 1 + 1) := by omega
      have hkx2 : w.heap.size < u.heap.size + 1 + 1 := by omega
      have hB := hB'; clear hB'
      have hsz := hB.size
      go_wp2_with (go_at_call 38; (with_reducible refine (HW.out _).mono ?_); rintro _ _ ⟨rfl, rfl⟩)
      go_ret
      exact ⟨ret_i64 hv.symm, by go_grown⟩
  · cases e2 : decide (n < 0) <;> cases e3 : decide ((255 : Int) < n)
    all_goals
      have hv := HV.out
      rw [e2, e3] at hv
      skip
      go_enter Tryz.func24, Tryz.ntmps24
      go_wp2_with fail
      ((with_reducible refine (HF.out _).mono ?_); rintro _ u ⟨rfl, hb⟩)
      have T : u.cell? ⟨w.heap.size, 0, none⟩ = some (.int .i64 b) ∧ u.cell? ⟨w.heap.size, 1, none⟩ = some (.int .i64 n) := by
          refine ⟨?_, ?_⟩ <;> refine kc hb ?_ <;> (go_simp; first | done | rfl)
      have hz := hb.size
      (try simp only [World.size_alloc, World.size_setCell, World.size_drew] at hz)
      have hlx' : w.heap.size < u.heap.size := by omega
      have hB' : Below w.heap.size w u := by
          refine kb ?_ hb
          go_grown
      clear hb hz
      obtain ⟨hx_0, hx_1⟩ := T
      have hlx := hlx'; clear hlx'
      have hnx0 : ¬ (w.heap.size = u.heap.size) := by omega
      have hnx1 : ¬ (w.heap.size = u.heap.size + 1) := by omega
      have hkx1 : w.heap.size < u.heap.size + 1 := by omega
      have hnx2 : ¬ (w.heap.size = u.heap.size + 1 + 1) := by omega
      have hkx2 : w.heap.size < u.heap.size + 1 + 1 := by omega
      have hB := hB'; clear hB'
      have hsz := hB.size
      go_wp2_with (go_at_call 38; (with_reducible refine (HW.out _).mono ?_); rintro _ _ ⟨rfl, rfl⟩)
      go_ret
      exact ⟨ret_i64 hv.symm, by go_grown⟩
set_option maxRecDepth 100000 in
theorem wrong_no (b : Nat) (n : Int)
    (hF : ∀ w, Calls Tryz.prog 25 #[.int .i64 b] w fun e w' => e = .returned (.tuple #[.int .i64 (-1), .int .i64 (-1)]) ∧ Below w.heap.size w w') (w : World) :
    Calls Tryz.prog 24 #[.agg #[.int .i64 b, .int .i64 n]] w fun e w' => e = .returned (.int .i64 13) ∧ Below w.heap.size w w' := by
  have HF := Lib.hid hF
  clear hF
  go_enter Tryz.func24, Tryz.ntmps24
  go_wp2_with fail
  ((with_reducible refine (HF.out _).mono ?_); rintro _ u ⟨rfl, hb⟩)
  have T : u.cell? ⟨w.heap.size, 0, none⟩ = some (.int .i64 b) ∧ u.cell? ⟨w.heap.size, 1, none⟩ = some (.int .i64 n) := by
      refine ⟨?_, ?_⟩ <;> refine kc hb ?_ <;> (go_simp; first | done | rfl)
  have hz := hb.size
  (try simp only [World.size_alloc, World.size_setCell, World.size_drew] at hz)
  have hlx' : w.heap.size < u.heap.size := by omega
  have hB' : Below w.heap.size w u := by
      refine kb ?_ hb
      go_grown
  clear hb hz
  obtain ⟨hx_0, hx_1⟩ := T
  have hlx := hlx'; clear hlx'
  have hnx0 : ¬ (w.heap.size = u.heap.size) := by omega
  have hnx1 : ¬ (w.heap.size = u.heap.size + 1) := by omega
  have hkx1 : w.heap.size < u.heap.size + 1 := by omega
  have hnx2 : ¬ (w.heap.size = u.heap.size + 1 + 1) := by omega
  have hkx2 : w.heap.size < u.heap.size + 1 + 1 := by omega
  have hB := hB'; clear hB'
  have hsz := hB.size
  go_wp2
  go_ret
  exact ⟨rfl, by go_grown⟩
theorem wrong_c (b : Nat) (hb : b < 256) (n : Int) (w : World) : Calls Tryz.prog 24 #[.agg #[.int .i64 b, .int .i64 n]] w fun e w' => e = .returned (.int .i64 (wrongD b n)) ∧ Below w.heap.size w w' := by
  unfold wrongD
  cases h : placeL.getD b none with
  | none => exact wrong_no b n (fun w => find_none b hb h w) w
  | some p => exact wrong_op b n (p / 13) (p % 13) (fun w => find_some b hb p h w) w

/-- How many digits a mode's number has; what is behind a name; a line's text. -/
def manyD (m : Int) : Nat := if wideD m then 4 else 2
def tailD (m : Int) (n : Nat) : List UInt8 := if m == 0 then [] else if m == 1 then [32, 65] else [32] ++ aheadD m ++ digsL n (manyD m) ++ behindD m
def textD (b : Nat) (n : Nat) : List UInt8 := match placeL.getD b none with
  | some p => nameL.getD (p / 13) [] ++ tailD ((p % 13 : Nat) : Int) n
  | none => []
theorem name_len : ∀ r : Fin 56, (nameL.getD r.val []).length = 3 := by decide +kernel
theorem name_t (r : Nat) (hr : r < 56) (w : World) : Calls Tryz.prog 36 #[.int .i64 r] w fun e w' => e = .returned (.string (txB (nameL.getD r []))) ∧ Below w.heap.size w w' := by
  have h := name_lets r hr
  have e : nameD r = txB (nameL.getD r []) := by
    rw [← h]
  rw [← e]
  exact name_c r hr w
def manyI (m : Int) : Int := if wideD m then 4 else 2
theorem manyI_eq (m : Int) : ((manyD m : Nat) : Int) = manyI m := by unfold manyD manyI; split <;> rfl
theorem mode_0 : wideD 0 = false ∧ manyD 0 = 2 ∧ manyI 0 = 2 ∧ aheadD 0 = [36] ∧ behindD 0 = [] := by decide +kernel
theorem mode_1 : wideD 1 = false ∧ manyD 1 = 2 ∧ manyI 1 = 2 ∧ aheadD 1 = [36] ∧ behindD 1 = [] := by decide +kernel
theorem mode_2 : wideD 2 = false ∧ manyD 2 = 2 ∧ manyI 2 = 2 ∧ aheadD 2 = [35, 36] ∧ behindD 2 = [] := by decide +kernel
theorem mode_3 : wideD 3 = false ∧ manyD 3 = 2 ∧ manyI 3 = 2 ∧ aheadD 3 = [36] ∧ behindD 3 = [] := by decide +kernel
theorem mode_4 : wideD 4 = false ∧ manyD 4 = 2 ∧ manyI 4 = 2 ∧ aheadD 4 = [36] ∧ behindD 4 = [44, 88] := by decide +kernel
theorem mode_5 : wideD 5 = false ∧ manyD 5 = 2 ∧ manyI 5 = 2 ∧ aheadD 5 = [36] ∧ behindD 5 = [44, 89] := by decide +kernel
theorem mode_6 : wideD 6 = true ∧ manyD 6 = 4 ∧ manyI 6 = 4 ∧ aheadD 6 = [36] ∧ behindD 6 = [] := by decide +kernel
theorem mode_7 : wideD 7 = true ∧ manyD 7 = 4 ∧ manyI 7 = 4 ∧ aheadD 7 = [36] ∧ behindD 7 = [44, 88] := by decide +kernel
theorem mode_8 : wideD 8 = true ∧ manyD 8 = 4 ∧ manyI 8 = 4 ∧ aheadD 8 = [36] ∧ behindD 8 = [44, 89] := by decide +kernel
theorem mode_9 : wideD 9 = false ∧ manyD 9 = 2 ∧ manyI 9 = 2 ∧ aheadD 9 = [40, 36] ∧ behindD 9 = [44, 88, 41] := by decide +kernel
theorem mode_10 : wideD 10 = false ∧ manyD 10 = 2 ∧ manyI 10 = 2 ∧ aheadD 10 = [40, 36] ∧ behindD 10 = [41, 44, 89] := by decide +kernel
theorem mode_11 : wideD 11 = true ∧ manyD 11 = 4 ∧ manyI 11 = 4 ∧ aheadD 11 = [40, 36] ∧ behindD 11 = [41] := by decide +kernel
theorem mode_12 : wideD 12 = true ∧ manyD 12 = 4 ∧ manyI 12 = 4 ∧ aheadD 12 = [36] ∧ behindD 12 = [] := by decide +kernel
theorem mode_ways (k : Int) (h0 : 0 ≤ k) (h1 : k ≤ 12) : (k = 0 ∧ wideD k = false ∧ manyD k = 2 ∧ manyI k = 2 ∧ aheadD k = [36] ∧ behindD k = []) ∨ (k = 1 ∧ wideD k = false ∧ manyD k = 2 ∧ manyI k = 2 ∧ aheadD k = [36] ∧ behindD k = []) ∨ (k = 2 ∧ wideD k = false ∧ manyD k = 2 ∧ manyI k = 2 ∧ aheadD k = [35, 36] ∧ behindD k = []) ∨ (k = 3 ∧ wideD k = false ∧ manyD k = 2 ∧ manyI k = 2 ∧ aheadD k = [36] ∧ behindD k = []) ∨ (k = 4 ∧ wideD k = false ∧ manyD k = 2 ∧ manyI k = 2 ∧ aheadD k = [36] ∧ behindD k = [44, 88]) ∨ (k = 5 ∧ wideD k = false ∧ manyD k = 2 ∧ manyI k = 2 ∧ aheadD k = [36] ∧ behindD k = [44, 89]) ∨ (k = 6 ∧ wideD k = true ∧ manyD k = 4 ∧ manyI k = 4 ∧ aheadD k = [36] ∧ behindD k = []) ∨ (k = 7 ∧ wideD k = true ∧ manyD k = 4 ∧ manyI k = 4 ∧ aheadD k = [36] ∧ behindD k = [44, 88]) ∨ (k = 8 ∧ wideD k = true ∧ manyD k = 4 ∧ manyI k = 4 ∧ aheadD k = [36] ∧ behindD k = [44, 89]) ∨ (k = 9 ∧ wideD k = false ∧ manyD k = 2 ∧ manyI k = 2 ∧ aheadD k = [40, 36] ∧ behindD k = [44, 88, 41]) ∨ (k = 10 ∧ wideD k = false ∧ manyD k = 2 ∧ manyI k = 2 ∧ aheadD k = [40, 36] ∧ behindD k = [41, 44, 89]) ∨ (k = 11 ∧ wideD k = true ∧ manyD k = 4 ∧ manyI k = 4 ∧ aheadD k = [40, 36] ∧ behindD k = [41]) ∨ (k = 12 ∧ wideD k = true ∧ manyD k = 4 ∧ manyI k = 4 ∧ aheadD k = [36] ∧ behindD k = []) := by
  rcases modes k with h | h
  · rcases h with rfl | rfl | rfl | rfl | rfl | rfl | rfl | rfl | rfl | rfl | rfl | rfl | rfl
    · exact Or.inl ⟨rfl, mode_0⟩
    · exact Or.inr (Or.inl ⟨rfl, mode_1⟩)
    · exact Or.inr (Or.inr (Or.inl ⟨rfl, mode_2⟩))
    · exact Or.inr (Or.inr (Or.inr (Or.inl ⟨rfl, mode_3⟩)))
    · exact Or.inr (Or.inr (Or.inr (Or.inr (Or.inl ⟨rfl, mode_4⟩))))
    · exact Or.inr (Or.inr (Or.inr (Or.inr (Or.inr (Or.inl ⟨rfl, mode_5⟩)))))
    · exact Or.inr (Or.inr (Or.inr (Or.inr (Or.inr (Or.inr (Or.inl ⟨rfl, mode_6⟩))))))
    · exact Or.inr (Or.inr (Or.inr (Or.inr (Or.inr (Or.inr (Or.inr (Or.inl ⟨rfl, mode_7⟩)))))))
    · exact Or.inr (Or.inr (Or.inr (Or.inr (Or.inr (Or.inr (Or.inr (Or.inr (Or.inl ⟨rfl, mode_8⟩))))))))
    · exact Or.inr (Or.inr (Or.inr (Or.inr (Or.inr (Or.inr (Or.inr (Or.inr (Or.inr (Or.inl ⟨rfl, mode_9⟩)))))))))
    · exact Or.inr (Or.inr (Or.inr (Or.inr (Or.inr (Or.inr (Or.inr (Or.inr (Or.inr (Or.inr (Or.inl ⟨rfl, mode_10⟩))))))))))
    · exact Or.inr (Or.inr (Or.inr (Or.inr (Or.inr (Or.inr (Or.inr (Or.inr (Or.inr (Or.inr (Or.inr (Or.inl ⟨rfl, mode_11⟩)))))))))))
    · exact Or.inr (Or.inr (Or.inr (Or.inr (Or.inr (Or.inr (Or.inr (Or.inr (Or.inr (Or.inr (Or.inr (Or.inr (⟨rfl, mode_12⟩))))))))))))
  · exfalso; omega
end Go.Proofs.YtpjpoopgafcedaaGreatDoor
