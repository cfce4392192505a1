/-
  The program's Write: where nothing turns; what Whole answers of a turn, and of steps.
-/
import Derived.Test.YtkabpnchfhkhgaaProgs12
set_option linter.unusedSimpArgs false
set_option linter.unusedVariables false
namespace Go.Proofs.Ytkabpnchfhkhgaa
open Go.RowKit Go.PlainAid

/-- The rule, the error. -/
def wrE (reg t : Int) : Int × Int := if ¬ (0 ≤ reg ∧ reg ≤ 2) then (0, 10) else if t ≠ 0 then (4, 20) else (0, 0)
def wrS (R : Wh) (reg v t : Int) : Wh := if reg = 0 ∧ t = 0 then rollW R v else R
def WrEnd (wb : Nat) (R : Wh) (reg v t : Int) (w : World) : Ending → World → Prop := fun e w' =>
  e = .returned (.tuple #[.int .i64 (wrE reg t).1, .int .i64 (wrE reg t).2]) ∧ Pw wb (wrS R reg v t) w' ∧ Fr (fun k => k = wb) w w'
theorem wrEnd_no {wb : Nat} {R : Wh} {reg v t U E : Int} {w w' : World} (hE : wrE reg t = (U, E)) (hS : wrS R reg v t = R) (h : Pw wb R w) (hb : Below w.heap.size w w') : WrEnd wb R reg v t w (.returned (.tuple #[.int .i64 U, .int .i64 E])) w' := by
  refine ⟨by rw [hE], ?_, Fr.ofBelow hb⟩
  rw [hS]; exact h.below hb
set_option maxRecDepth 100000 in
theorem wwrite_nil (reg v t : Int) (w : World) : Calls Try.prog 11 #[.pointer none, .int .i64 reg, .agg #[.int .u8 v, .int .u8 t]] w fun e w' => e = .returned (.tuple #[.int .i64 0, .int .i64 2]) ∧ Below w.heap.size w w' := by
  go_enter Try.func11, Try.ntmps11
  go_wp2
  go_ret2
  exact ⟨rfl, by go_grown⟩
set_option maxRecDepth 100000 in
theorem isreg_c (r : Int) (w : World) : Calls Try.prog 20 #[.int .i64 r] w fun e w' => e = .returned (.bool (decide (0 ≤ r) && decide (r ≤ 2))) ∧ Below w.heap.size w w' := by
  have h : decide (0 ≤ r) = true ∧ decide (r ≤ 2) = true ∨ decide (0 ≤ r) = true ∧ decide (r ≤ 2) = false ∨ decide (0 ≤ r) = false := by
    cases decide (0 ≤ r) <;> cases decide (r ≤ 2) <;> simp
  rcases h with ⟨h1, h2⟩ | ⟨h1, h2⟩ | h1
  all_goals
    go_enter Try.func20, Try.ntmps20
    go_wp2
    go_ret
    exact ⟨by simp_all <;> omega, by go_grown⟩
set_option maxRecDepth 100000 in
theorem wwrite_no (wb : Nat) (R : Wh) (reg v t : Int) (hn : ¬ (reg = 0 ∧ t = 0)) (w : World) (h : Pw wb R w) :
    Calls Try.prog 11 #[.pointer (some ⟨wb, 0, none⟩), .int .i64 reg, .agg #[.int .u8 v, .int .u8 t]] w (WrEnd wb R reg v t w) := by
  have HP := Lib.hid h
  have HS := Lib.hid (show wrS R reg v t = R from by unfold wrS; rw [if_neg hn])
  have HA := Lib.hid (show Below w.heap.size w (w.alloc (Obj.cells #[Value.int .u8 v, Value.int .u8 t] 34)) from by go_grown)
  obtain ⟨g, hg⟩ : ∃ g, (decide (0 ≤ reg) && decide (reg ≤ 2)) = g := ⟨_, rfl⟩
  have HI := Lib.hid (fun W => isreg_c reg W)
  rw [hg] at HI
  have hgr : g = true ↔ 0 ≤ reg ∧ reg ≤ 2 := by rw [← hg]; simp
  clear h hg
  cases g
  · have HE := Lib.hid (show wrE reg t = (0, 10) from by unfold wrE; rw [if_pos (fun h => by have := hgr.2 h; simp at this)])
    clear hn hgr
    go_enter Try.func11, Try.ntmps11
    go_wp2_with fail
    refine (HI.out _).mono ?_
    rintro _ u ⟨rfl, hb⟩
    have HB := Lib.hid (Below.trans HA.out (hb.mono (by simp)))
    clear hb
    go_wp2
    go_ret2
    exact wrEnd_no HE.out HS.out HP.out HB.out
  · have hr := hgr.1 rfl
    clear hgr
    by_cases ht : t = 0
    · subst ht
      have d3 : (reg == 0) = false := by simpa using (fun e => hn ⟨e, rfl⟩)
      have HE := Lib.hid (show wrE reg 0 = (0, 0) from by unfold wrE; rw [if_neg (by omega), if_neg (by omega)])
      clear hn hr
      go_enter Try.func11, Try.ntmps11
      go_wp2_with fail
      refine (HI.out _).mono ?_
      rintro _ u ⟨rfl, hb⟩
      have k1 : u.cell? ⟨w.heap.size, 1, none⟩ = some (.int .u8 0) := by rw [(bcell hb).1 _ _ (by simp)]; go_simp; first | done | rfl
      have l0 := klt k1
      have HB := Lib.hid (Below.trans HA.out (hb.mono (by simp)))
      clear hb
      go_wp2
      go_ret2
      exact wrEnd_no HE.out HS.out HP.out HB.out
    · have d3 : (t != 0) = true := by simpa using ht
      have HE := Lib.hid (show wrE reg t = (4, 20) from by unfold wrE; rw [if_neg (by omega), if_pos ht])
      clear hn hr ht
      go_enter Try.func11, Try.ntmps11
      go_wp2_with fail
      refine (HI.out _).mono ?_
      rintro _ u ⟨rfl, hb⟩
      have k1 : u.cell? ⟨w.heap.size, 1, none⟩ = some (.int .u8 t) := by rw [(bcell hb).1 _ _ (by simp)]; go_simp; first | done | rfl
      have l0 := klt k1
      have HB := Lib.hid (Below.trans HA.out (hb.mono (by simp)))
      clear hb
      go_wp2
      go_ret2
      exact wrEnd_no HE.out HS.out HP.out HB.out
/-- A way by a quarter. -/
theorem turn_ways {q m : Int} (hq : 0 ≤ q ∧ q ≤ 3) (hm : 0 ≤ m ∧ m ≤ 3) : waysX q * waysX m - waysY q * waysY m = waysX ((q + m).tmod 4) ∧ waysX q * waysY m + waysY q * waysX m = waysY ((q + m).tmod 4) ∧
    backI (waysX ((q + m).tmod 4)) = waysX ((q + m).tmod 4) ∧ backI (waysY ((q + m).tmod 4)) = waysY ((q + m).tmod 4) := by
  rcases way_cases hq with rfl | rfl | rfl | rfl <;> rcases way_cases hm with rfl | rfl | rfl | rfl <;> decide
/-- What Whole answers of a way by a quarter: the next way. -/
theorem turn_c {q m : Int} (hq : 0 ≤ q ∧ q ≤ 3) (hm : 0 ≤ m ∧ m ≤ 3) : ∃ A B, (∀ (t : TypeId) (W : World), (binOp .mul t (cV (waysX q) (waysY q)) (cV (waysX m) (waysY m))).run Try.prog W = .ok (.complex .f64 A B) W) ∧
    ∀ W, Calls Try.prog 16 #[.complex .f64 A B] W fun e w' => e = .returned (cV (waysX ((q + m).tmod 4)) (waysY ((q + m).tmod 4))) ∧ Below W.heap.size W w' := by
  have s1 := small_ways q
  have s2 := small_ways m
  obtain ⟨h1, h2, h3, h4⟩ := turn_ways hq hm
  have sm : ∀ {a b : Int}, (a = 0 ∨ a = 1 ∨ a = -1) → (b = 0 ∨ b = 1 ∨ b = -1) → (a * b).natAbs ≤ 1 := fun ha hb => by
    rcases ha with rfl | rfl | rfl <;> rcases hb with rfl | rfl | rfl <;> decide
  have q1 := sm (waysX_of q) (waysX_of m)
  have q2 := sm (waysY_of q) (waysY_of m)
  have q3 := sm (waysX_of q) (waysY_of m)
  have q4 := sm (waysY_of q) (waysX_of m)
  have w1 : (waysX ((q + m).tmod 4)).natAbs ≤ 1 := by rcases waysX_of ((q + m).tmod 4) with h | h | h <;> rw [h] <;> decide
  have w2 : (waysY ((q + m).tmod 4)).natAbs ≤ 1 := by rcases waysY_of ((q + m).tmod 4) with h | h | h <;> rw [h] <;> decide
  obtain ⟨A, B, hc, za, zb⟩ := zw_cmul (zw_zF s1.1) (zw_zF s1.2) (zw_zF s2.1) (zw_zF s2.2) (by rw [p53]; omega) (by rw [p53]; omega) (by rw [p53]; omega) (by rw [p53]; omega) (by rw [p53]; omega) (by rw [p53]; omega)
  rw [h1] at za
  rw [h2] at zb
  refine ⟨A, B, fun t W => run_complex_mul W t _ _ _ _ _ _ hc, fun W => ?_⟩
  have := whole_c _ _ (by omega) (by omega) A B za zb W
  rw [h3, h4] at this
  exact this
/-- What Whole answers of a place and so many steps. -/
theorem roll_c {x y n q : Int} (hx : -128 ≤ x ∧ x ≤ 127) (hy : -128 ≤ y ∧ y ≤ 127) (hn : 0 ≤ n ∧ n ≤ 63) : ∃ A B C D, (∀ (t : TypeId) (W : World), (binOp .mul t (cV (waysX q) (waysY q)) (.complex .f64 (zF n) 0)).run Try.prog W = .ok (.complex .f64 A B) W) ∧
    (∀ (t : TypeId) (W : World), (binOp .add t (cV x y) (.complex .f64 A B)).run Try.prog W = .ok (.complex .f64 C D) W) ∧
    ∀ W, Calls Try.prog 16 #[.complex .f64 C D] W fun e w' => e = .returned (cV (backI (x + n * waysX q)) (backI (y + n * waysY q))) ∧ Below W.heap.size W w' := by
  have s1 := small_ways q
  have hz : ZW 0 0 := by have := zw_zF (n := 0) (by decide); rw [zF_zero] at this; exact this
  have k1 := step_b (W := 0) hx hn (waysX_of q)
  have k2 := step_b (W := 0) hy hn (waysY_of q)
  have e1 : waysX q * n = n * waysX q := Int.mul_comm _ _
  have e2 : waysY q * n = n * waysY q := Int.mul_comm _ _
  obtain ⟨A, B, hc, za, zb⟩ := zw_cmul (zw_zF s1.1) (zw_zF s1.2) (zw_zF (n := n) (by rw [p53]; omega)) hz (by rw [p53, e1]; omega) (by rw [Int.mul_zero]; decide) (by rw [Int.mul_zero]; decide) (by rw [p53, e2]; omega) (by rw [p53, e1, Int.mul_zero]; omega) (by rw [p53, e2, Int.mul_zero]; omega)
  rw [e1, Int.mul_zero, Int.sub_zero] at za
  rw [e2, Int.mul_zero, Int.zero_add] at zb
  obtain ⟨C, D, hs, zc, zd⟩ := zw_csum (zw_zF (n := x) (by rw [p53]; omega)) (zw_zF (n := y) (by rw [p53]; omega)) za zb (by rw [p53]; omega) (by rw [p53]; omega)
  exact ⟨A, B, C, D, fun t W => run_complex_mul W t _ _ _ _ _ _ hc, fun t W => run_complex_sum W .add (.inl rfl) t .f64 _ _ _ _ _ _ hs, fun W => whole_c _ _ (by omega) (by omega) C D zc zd W⟩
theorem conv_u8 (n : Int) (W : World) : (convert 5 46 (.int .u8 n)).run Try.prog W = .ok (.float .f64 (zF n)) W := by
  rw [← zF_of]
  exact run_convert_int_float W 5 46 .u8 .f64 n (by kernel_rfl) (by kernel_rfl)
end Go.Proofs.Ytkabpnchfhkhgaa
