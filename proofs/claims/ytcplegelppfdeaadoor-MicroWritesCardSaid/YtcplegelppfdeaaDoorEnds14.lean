/-
  The program: what steps end with, cut out of the row of all ends.
-/
import Derived.Test.YtcplegelppfdeaaDoorMicroK14
import Derived.Test.YtcplegelppfdeaaDoorOwn14
set_option linter.unusedSimpArgs false
set_option linter.unusedVariables false
namespace Go.Proofs.YtcplegelppfdeaaDoor
open Go.RowKit Go.PlainAid

def allEnds : List Int := [8, 12, 9, 10, 11, 14, 15, 16, 29, 30]
def endFrom (k : Int) : Nat := if k = 2 then 1 else if k = 3 then 2 else if k = 4 then 5 else if k = 5 then 8 else 0
def endTo (k : Int) : Nat := if k = 1 then 1 else if k = 2 then 2 else if k = 3 then 5 else if k = 4 then 10 else if k = 5 then 10 else 0
def endL (k : Int) : List Int := (allEnds.drop (endFrom k)).take (endTo k - endFrom k)
theorem ends_hold {w : World} {g : Nat} (h : ∀ j (x : Int), allEnds[j]? = some x → w.cell? ⟨g, j, none⟩ = some (.int .i64 x)) (a n : Nat) (hn : a + n ≤ 10) : HoldsW nE 1 w (.slice (some ⟨g, a, none⟩) n n) ((allEnds.drop a).take n) := by
  have hl : ((allEnds.drop a).take n).length = n := by
    rw [List.length_take, List.length_drop, show allEnds.length = 10 from rfl]; omega
  refine .inr ⟨g, a, n, by rw [hl], by rw [hl]; exact Nat.le_refl _, fun j x hx i u hu => ?_⟩
  have hi : i = 0 := by have := (List.getElem?_eq_some_iff.1 hu).1; simp [nE] at this; omega
  subst hi
  have hj : j < n := by have := (List.getElem?_eq_some_iff.1 hx).1; omega
  rw [List.getElem?_take_of_lt hj, List.getElem?_drop] at hx
  have := h _ _ hx
  cases hu
  rw [Nat.mul_one, Nat.add_zero]
  exact this
theorem ends_cases {P : Nat → Int → Prop} (h0 : P 0 8) (h1 : P 1 12) (h2 : P 2 9) (h3 : P 3 10) (h4 : P 4 11) (h5 : P 5 14) (h6 : P 6 15) (h7 : P 7 16) (h8 : P 8 29) (h9 : P 9 30) : ∀ j (x : Int), allEnds[j]? = some x → P j x := by
  intro j x hx
  match j, hx with
  | 0, hx => cases hx; exact h0
  | 1, hx => cases hx; exact h1
  | 2, hx => cases hx; exact h2
  | 3, hx => cases hx; exact h3
  | 4, hx => cases hx; exact h4
  | 5, hx => cases hx; exact h5
  | 6, hx => cases hx; exact h6
  | 7, hx => cases hx; exact h7
  | 8, hx => cases hx; exact h8
  | 9, hx => cases hx; exact h9
  | n + 10, hx => simp [allEnds] at hx
theorem index_cut0 (w : World) : (Instr.index 63 (.agg #[.int .i64 0, .int .i64 0, .int .i64 0, .int .i64 1, .int .i64 1, .int .i64 2, .int .i64 2, .int .i64 5, .int .i64 5, .int .i64 10, .int .i64 8, .int .i64 10]) (.int .i64 0)).run Tryd.prog w = .ok (.agg #[.int .i64 0, .int .i64 0]) w := by kernel_rfl
theorem index_cut1 (w : World) : (Instr.index 63 (.agg #[.int .i64 0, .int .i64 0, .int .i64 0, .int .i64 1, .int .i64 1, .int .i64 2, .int .i64 2, .int .i64 5, .int .i64 5, .int .i64 10, .int .i64 8, .int .i64 10]) (.int .i64 1)).run Tryd.prog w = .ok (.agg #[.int .i64 0, .int .i64 1]) w := by kernel_rfl
theorem index_cut2 (w : World) : (Instr.index 63 (.agg #[.int .i64 0, .int .i64 0, .int .i64 0, .int .i64 1, .int .i64 1, .int .i64 2, .int .i64 2, .int .i64 5, .int .i64 5, .int .i64 10, .int .i64 8, .int .i64 10]) (.int .i64 2)).run Tryd.prog w = .ok (.agg #[.int .i64 1, .int .i64 2]) w := by kernel_rfl
theorem index_cut3 (w : World) : (Instr.index 63 (.agg #[.int .i64 0, .int .i64 0, .int .i64 0, .int .i64 1, .int .i64 1, .int .i64 2, .int .i64 2, .int .i64 5, .int .i64 5, .int .i64 10, .int .i64 8, .int .i64 10]) (.int .i64 3)).run Tryd.prog w = .ok (.agg #[.int .i64 2, .int .i64 5]) w := by kernel_rfl
theorem index_cut4 (w : World) : (Instr.index 63 (.agg #[.int .i64 0, .int .i64 0, .int .i64 0, .int .i64 1, .int .i64 1, .int .i64 2, .int .i64 2, .int .i64 5, .int .i64 5, .int .i64 10, .int .i64 8, .int .i64 10]) (.int .i64 4)).run Tryd.prog w = .ok (.agg #[.int .i64 5, .int .i64 10]) w := by kernel_rfl
theorem index_cut5 (w : World) : (Instr.index 63 (.agg #[.int .i64 0, .int .i64 0, .int .i64 0, .int .i64 1, .int .i64 1, .int .i64 2, .int .i64 2, .int .i64 5, .int .i64 5, .int .i64 10, .int .i64 8, .int .i64 10]) (.int .i64 5)).run Tryd.prog w = .ok (.agg #[.int .i64 8, .int .i64 10]) w := by kernel_rfl
set_option maxRecDepth 100000 in
set_option maxHeartbeats 2000000 in
theorem ending_c (k : Int) (hk : 0 ≤ k ∧ k ≤ 5) (w : World) : Calls Tryd.prog 19 #[.int .i64 k] w fun e u => ∃ v, e = .returned v ∧ HoldsW nE 1 u v (endL k) ∧ Below w.heap.size w u := by
  have hc : k = 0 ∨ k = 1 ∨ k = 2 ∨ k = 3 ∨ k = 4 ∨ k = 5 := by omega
  rcases hc with rfl | rfl | rfl | rfl | rfl | rfl
  · have q := index_cut0
    go_enter Tryd.func19, Tryd.ntmps19
    go_wp2
    go_ret
    exact ⟨_, rfl, ends_hold (a := 0) (n := 0) (ends_cases (by go_simp; first | done | rfl) (by go_simp; first | done | rfl) (by go_simp; first | done | rfl) (by go_simp; first | done | rfl) (by go_simp; first | done | rfl) (by go_simp; first | done | rfl) (by go_simp; first | done | rfl) (by go_simp; first | done | rfl) (by go_simp; first | done | rfl) (by go_simp; first | done | rfl)) (by omega), by go_grown⟩
  · have q := index_cut1
    go_enter Tryd.func19, Tryd.ntmps19
    go_wp2
    go_ret
    exact ⟨_, rfl, ends_hold (a := 0) (n := 1) (ends_cases (by go_simp; first | done | rfl) (by go_simp; first | done | rfl) (by go_simp; first | done | rfl) (by go_simp; first | done | rfl) (by go_simp; first | done | rfl) (by go_simp; first | done | rfl) (by go_simp; first | done | rfl) (by go_simp; first | done | rfl) (by go_simp; first | done | rfl) (by go_simp; first | done | rfl)) (by omega), by go_grown⟩
  · have q := index_cut2
    go_enter Tryd.func19, Tryd.ntmps19
    go_wp2
    go_ret
    exact ⟨_, rfl, ends_hold (a := 1) (n := 1) (ends_cases (by go_simp; first | done | rfl) (by go_simp; first | done | rfl) (by go_simp; first | done | rfl) (by go_simp; first | done | rfl) (by go_simp; first | done | rfl) (by go_simp; first | done | rfl) (by go_simp; first | done | rfl) (by go_simp; first | done | rfl) (by go_simp; first | done | rfl) (by go_simp; first | done | rfl)) (by omega), by go_grown⟩
  · have q := index_cut3
    go_enter Tryd.func19, Tryd.ntmps19
    go_wp2
    go_ret
    exact ⟨_, rfl, ends_hold (a := 2) (n := 3) (ends_cases (by go_simp; first | done | rfl) (by go_simp; first | done | rfl) (by go_simp; first | done | rfl) (by go_simp; first | done | rfl) (by go_simp; first | done | rfl) (by go_simp; first | done | rfl) (by go_simp; first | done | rfl) (by go_simp; first | done | rfl) (by go_simp; first | done | rfl) (by go_simp; first | done | rfl)) (by omega), by go_grown⟩
  · have q := index_cut4
    go_enter Tryd.func19, Tryd.ntmps19
    go_wp2
    go_ret
    exact ⟨_, rfl, ends_hold (a := 5) (n := 5) (ends_cases (by go_simp; first | done | rfl) (by go_simp; first | done | rfl) (by go_simp; first | done | rfl) (by go_simp; first | done | rfl) (by go_simp; first | done | rfl) (by go_simp; first | done | rfl) (by go_simp; first | done | rfl) (by go_simp; first | done | rfl) (by go_simp; first | done | rfl) (by go_simp; first | done | rfl)) (by omega), by go_grown⟩
  · have q := index_cut5
    go_enter Tryd.func19, Tryd.ntmps19
    go_wp2
    go_ret
    exact ⟨_, rfl, ends_hold (a := 8) (n := 2) (ends_cases (by go_simp; first | done | rfl) (by go_simp; first | done | rfl) (by go_simp; first | done | rfl) (by go_simp; first | done | rfl) (by go_simp; first | done | rfl) (by go_simp; first | done | rfl) (by go_simp; first | done | rfl) (by go_simp; first | done | rfl) (by go_simp; first | done | rfl) (by go_simp; first | done | rfl)) (by omega), by go_grown⟩
end Go.Proofs.YtcplegelppfdeaaDoor
