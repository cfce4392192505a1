/-
  The program's wheel: Way, Clone, Same.
-/
import Derived.Test.YtkabpnchfhkhgaaProg12
import Derived.Test.YtkabpnchfhkhgaaPlanX
set_option linter.unusedSimpArgs false
set_option linter.unusedVariables false
namespace Go.Proofs.Ytkabpnchfhkhgaa
open Go.RowKit Go.PlainAid

set_option maxRecDepth 100000 in
theorem wway_c (wb : Nat) (R : Wh) (w : World) (h : Pw wb R w) : Calls Try.prog 19 #[.pointer (some ⟨wb, 0, none⟩)] w fun e w' => e = .returned (cV (waysX R.q) (waysY R.q)) ∧ Below w.heap.size w w' := by
  obtain ⟨c0, c1, c2, -⟩ := h
  generalize cV (waysX R.q) (waysY R.q) = V at *
  go_enter Try.func19, Try.ntmps19
  go_wp2
  go_ret
  exact ⟨rfl, by go_grown⟩
set_option maxRecDepth 100000 in
theorem wat_nil (w : World) : Calls Try.prog 18 #[.pointer none] w fun e w' => e = .returned (.complex .f64 0 0) ∧ Below w.heap.size w w' := by
  go_enter Try.func18, Try.ntmps18
  go_wp2
  go_ret
  exact ⟨rfl, by go_grown⟩
set_option maxRecDepth 100000 in
theorem wway_nil (w : World) : Calls Try.prog 19 #[.pointer none] w fun e w' => e = .returned (.complex .f64 0 0) ∧ Below w.heap.size w w' := by
  go_enter Try.func19, Try.ntmps19
  go_wp2
  go_ret
  exact ⟨rfl, by go_grown⟩
set_option maxRecDepth 100000 in
theorem wclone_nil (w : World) : Calls Try.prog 9 #[.pointer none] w fun e w' => e = .returned (.pointer none) ∧ Below w.heap.size w w' := by
  go_enter Try.func9, Try.ntmps9
  go_wp2
  go_ret
  exact ⟨rfl, by go_grown⟩
set_option maxRecDepth 100000 in
theorem wclone_c (wb : Nat) (R : Wh) (w : World) (h : Pw wb R w) : Calls Try.prog 9 #[.pointer (some ⟨wb, 0, none⟩)] w fun e w' => ∃ cb, e = .returned (.pointer (some ⟨cb, 0, none⟩)) ∧ Pw cb R w' ∧ w.heap.size ≤ cb ∧ Below w.heap.size w w' := by
  obtain ⟨c0, c1, c2, -⟩ := h
  have hlt := klt c0
  have hst := store_cplx Try.prog
  have H : ∀ cb w', w'.cell? ⟨cb, 0, none⟩ = some (cV R.x R.y) → w'.cell? ⟨cb, 1, none⟩ = some (cV (waysX R.q) (waysY R.q)) → w'.cell? ⟨cb, 2, none⟩ = some (.int .u8 R.b) → (∀ i, i < 3 → w'.frozen? ⟨cb, i, none⟩ = false) → Pw cb R w' := fun cb w' a b c d => ⟨a, b, c, d⟩
  have H := Lib.hid H
  unfold cV at *
  generalize zF R.x = X at *
  generalize zF R.y = Y at *
  generalize zF (waysX R.q) = A at *
  generalize zF (waysY R.q) = B at *
  go_enter Try.func9, Try.ntmps9
  go_wp2
  go_ret
  refine ⟨_, rfl, H.out _ _ (by go_simp; first | done | rfl) (by go_simp; first | done | rfl) (by go_simp; first | done | rfl) (fun i hi => by go_simp), by simp, by go_grown⟩
def sameW (R T : Wh) : Bool := decide (R.x = T.x) && decide (R.y = T.y) && decide (R.q = T.q) && decide (R.b = T.b)
theorem ways_inj {p q : Int} (hp : 0 ≤ p ∧ p ≤ 3) (hq : 0 ≤ q ∧ q ≤ 3) : (decide (waysX p = waysX q) && decide (waysY p = waysY q)) = decide (p = q) := by
  rcases way_cases hp with rfl | rfl | rfl | rfl <;> rcases way_cases hq with rfl | rfl | rfl | rfl <;> decide
theorem small_ways (q : Int) : (waysX q).natAbs < 2 ^ 53 ∧ (waysY q).natAbs < 2 ^ 53 := by
  rcases waysX_of q with h | h | h <;> rcases waysY_of q with h2 | h2 | h2 <;> rw [h, h2] <;> decide
set_option maxRecDepth 100000 in
set_option maxHeartbeats 1000000 in
theorem wsame_c (vb wb : Nat) (R T : Wh) (hR : R.May) (hT : T.May) (w : World) (h : Pw vb R w) (h' : Pw wb T w) :
    Calls Try.prog 10 #[.pointer (some ⟨vb, 0, none⟩), .pointer (some ⟨wb, 0, none⟩)] w fun e w' => e = .returned (.bool (sameW R T)) ∧ Below w.heap.size w w' := by
  have e1 := zF_eq (m := R.x) (n := T.x) (by have := hR.x; rw [p53]; omega) (by have := hT.x; rw [p53]; omega)
  have e2 := zF_eq (m := R.y) (n := T.y) (by have := hR.y; rw [p53]; omega) (by have := hT.y; rw [p53]; omega)
  have e3 := zF_eq (small_ways R.q).1 (small_ways T.q).1
  have e4 := zF_eq (small_ways R.q).2 (small_ways T.q).2
  have e5 : (R.b == T.b) = decide (R.b = T.b) := rfl
  have HQ := Lib.hid (ways_inj hR.q hT.q)
  unfold sameW
  rw [← HQ.out]
  obtain ⟨c0, c1, c2, -⟩ := h
  obtain ⟨d0, d1, d2, -⟩ := h'
  have hl1 := klt c0
  have hl2 := klt d0
  unfold cV at *
  generalize zF R.x = X at *
  generalize zF R.y = Y at *
  generalize zF (waysX R.q) = A at *
  generalize zF (waysY R.q) = B at *
  generalize zF T.x = X' at *
  generalize zF T.y = Y' at *
  generalize zF (waysX T.q) = A' at *
  generalize zF (waysY T.q) = B' at *
  generalize decide (R.x = T.x) = D1 at *
  generalize decide (R.y = T.y) = D2 at *
  generalize decide (waysX R.q = waysX T.q) = D3 at *
  generalize decide (waysY R.q = waysY T.q) = D4 at *
  generalize decide (R.b = T.b) = D5 at *
  clear hR hT HQ
  have hp_0 := c0
  have hp_1 := c1
  have hp_2 := c2
  have hq_0 := d0
  have hq_1 := d1
  have hq_2 := d2
  have hB : Below w.heap.size w w := Below.refl _ _
  clear c0 c1 c2 d0 d1 d2
  have hcase : D1 = false ∨ (D1 = true ∧ D2 = false) ∨ (D1 = true ∧ D2 = true ∧ D3 = false) ∨ (D1 = true ∧ D2 = true ∧ D3 = true ∧ D4 = false) ∨ (D1 = true ∧ D2 = true ∧ D3 = true ∧ D4 = true) := by
    cases D1 <;> cases D2 <;> cases D3 <;> cases D4 <;> simp
  rcases hcase with rfl | ⟨rfl, rfl⟩ | ⟨rfl, rfl, rfl⟩ | ⟨rfl, rfl, rfl, rfl⟩ | ⟨rfl, rfl, rfl, rfl⟩
  all_goals
    (try simp only [Bool.false_and, Bool.true_and, Bool.and_false])
    go_enter Try.func10, Try.ntmps10
    go_wp2_with fail
    refine wp_region_plan (fun w' => w'.cell? ⟨vb, 0, none⟩ = some (.complex .f64 X Y) ∧ w'.cell? ⟨vb, 1, none⟩ = some (.complex .f64 A B) ∧ w'.cell? ⟨vb, 2, none⟩ = some (.int .u8 R.b) ∧ w'.cell? ⟨wb, 0, none⟩ = some (.complex .f64 X' Y') ∧ w'.cell? ⟨wb, 1, none⟩ = some (.complex .f64 A' B') ∧ w'.cell? ⟨wb, 2, none⟩ = some (.int .u8 T.b) ∧ Below w.heap.size w w') (by kernel_rfl) (by kernel_rfl) (by kernel_rfl) ?_ ?_
    · (try dsimp only)
      refine ⟨?_, ?_, ?_, ?_, ?_, ?_, ?_⟩ <;> first | (go_simp; done) | (simp [*]; done) | go_grown
    repeat (first
      | (refine Plan.val (v := ?_) ?_ ?_ ?_; rotate_left; (· rfl); (· (intro W hSw; (try dsimp only at hSw); go_simp; all_goals (first | (with_reducible rfl) | (constructor <;> (with_reducible rfl)) | (rw [if_neg (by omega)]; done) | (rw [if_neg (by omega)]; with_reducible rfl)))); (try simp only [Act.put, List.setIfInBounds_toArray, List.set_cons_zero, List.set_cons_succ]))
      | (refine Plan.no ?_ ?_; (· rfl); (try simp only [Act.put, List.setIfInBounds_toArray, List.set_cons_zero, List.set_cons_succ])))
    refine Plan.done ?_
    intro wz T
    (try dsimp only at T)
    have hBe := T.2.2.2.2.2.2
    go_wp2
    go_ret
    exact ⟨by first | rfl | (simp; done), by go_grown⟩
end Go.Proofs.Ytkabpnchfhkhgaa
