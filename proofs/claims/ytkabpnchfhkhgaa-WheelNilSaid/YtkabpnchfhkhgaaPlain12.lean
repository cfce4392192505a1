/-
  The law's plain: whether a number is two whole ones, and no 0 of it below 0.
-/
import Derived.Test.YtkabpnchfhkhgaaRef12
set_option linter.unusedSimpArgs false
set_option linter.unusedVariables false
namespace Go.Proofs.Ytkabpnchfhkhgaa
open Go.RowKit Go.PlainAid

theorem conv_zF (n : Int) (W : World) : (convert 3 46 (.int .i64 n)).run Try.prog W = .ok (.float .f64 (zF n)) W := by
  rw [← zF_of]
  exact run_convert_int_float W 3 46 .i64 .f64 n (by kernel_rfl) (by kernel_rfl)
theorem quo_zero (W : World) : (binOp .quo 46 (.float .f64 4607182418800017408) (.float .f64 (zF 0))).run Try.prog W = .ok (.float .f64 9218868437227405312) W :=
  run_float_arith W .quo _ .f64 _ _ _ (by decide +kernel)
theorem inf_gt : (FloatKind.f64.format.order 9218868437227405312 0 == some .gt) = true := by decide +kernel
set_option maxRecDepth 100000 in
set_option maxHeartbeats 2000000 in
theorem plain_c (x y : Int) (hx : x.natAbs < 2 ^ 53) (hy : y.natAbs < 2 ^ 53) (w : World) :
    Calls Try.prog 15 #[cV x y, .int .i64 x, .int .i64 y] w fun e w' => e = .returned (.bool true) ∧ Below w.heap.size w w' := by
  unfold cV
  have hcx := fun W => conv_zF x W
  have hcy := fun W => conv_zF y W
  have hex := zF_eq hx hx
  have hey := zF_eq hy hy
  have hq := quo_zero
  have hi := inf_gt
  rw [decide_eq_true rfl] at hex hey
  clear hx hy
  by_cases h0 : x = 0
  · subst h0
    by_cases h1 : y = 0
    · subst h1
      generalize zF 0 = Z at *
      go_enter Try.func15, Try.ntmps15
      go_wp2
      go_ret
      exact ⟨rfl, by go_grown⟩
    · have hb : (y != 0) = true := by simpa using h1
      generalize zF 0 = Z at *
      generalize zF y = Y at *
      go_enter Try.func15, Try.ntmps15
      go_wp2
      go_ret
      exact ⟨rfl, by go_grown⟩
  · have ha : (x != 0) = true := by simpa using h0
    by_cases h1 : y = 0
    · subst h1
      generalize zF 0 = Z at *
      generalize zF x = X at *
      go_enter Try.func15, Try.ntmps15
      go_wp2
      go_ret
      exact ⟨rfl, by go_grown⟩
    · have hb : (y != 0) = true := by simpa using h1
      generalize zF x = X at *
      generalize zF y = Y at *
      go_enter Try.func15, Try.ntmps15
      go_wp2
      go_ret
      exact ⟨rfl, by go_grown⟩
end Go.Proofs.Ytkabpnchfhkhgaa
