/-
  Policies whose bits are bytes'; whether there are not too many spans (policy's Awake7).
-/
import Derived.Test.YtcilnbkmaoneaaaDoorCheck
set_option linter.unusedSimpArgs false
set_option linter.unusedVariables false
namespace Go.Proofs.YtcilnbkmaoneaaaDoor
open Go.RowKit Go.PlainAid

def Bits (p : Pol) : Prop := (∀ x ∈ p.s, 0 ≤ x.b ∧ x.b ≤ 255) ∧ ∀ x ∈ p.k, 0 ≤ x.b ∧ x.b ≤ 255
set_option maxRecDepth 100000 in
theorem few7_c (p : Pol) (v : Value) (w : World) (hv : HoldsP w v p) : Calls Tryd.prog 6 #[v] w fun e w' => e = .returned (.bool (decide (p.s.length ≤ 80) && decide (p.k.length ≤ 80))) ∧ Below w.heap.size w w' := by
  obtain ⟨v1, v2, rfl, h1, h2⟩ := hv
  obtain ⟨a1, c1, rfl⟩ := h1.form
  obtain ⟨a2, c2, rfl⟩ := h2.form
  generalize p.s.length = n1 at *
  generalize p.k.length = n2 at *
  clear h1 h2
  have e1 : decide ((n1 : Int) ≤ 80) = decide (n1 ≤ 80) := dec_eqs (by omega)
  have e2 : decide ((n2 : Int) ≤ 80) = decide (n2 ≤ 80) := dec_eqs (by omega)
  by_cases c1' : n1 ≤ 80
  · have d1 : decide (n1 ≤ 80) = true := decide_eq_true c1'
    by_cases c2' : n2 ≤ 80
    · have d2 : decide (n2 ≤ 80) = true := decide_eq_true c2'
      rw [d1, d2]
      rw [d1] at e1; rw [d2] at e2
      go_enter Tryd.func6, Tryd.ntmps6
      go_wp2
      go_ret
      exact ⟨rfl, by go_grown⟩
    · have d2 : decide (n2 ≤ 80) = false := decide_eq_false c2'
      rw [d1, d2]
      rw [d1] at e1; rw [d2] at e2
      go_enter Tryd.func6, Tryd.ntmps6
      go_wp2
      go_ret
      exact ⟨rfl, by go_grown⟩
  · have d1 : decide (n1 ≤ 80) = false := decide_eq_false c1'
    rw [d1]
    rw [d1] at e1
    go_enter Tryd.func6, Tryd.ntmps6
    go_wp2
    go_ret
    exact ⟨rfl, by go_grown⟩
end Go.Proofs.YtcilnbkmaoneaaaDoor
