/-
  How an integer, and a byte with secrets, open.
-/
import Derived.Test.YtcilnbkmaoneaaaOpenP9
set_option linter.unusedSimpArgs false
set_option linter.unusedVariables false
set_option maxRecDepth 100000
namespace Go.Proofs.Ytcilnbkmaoneaaa
open Go.ChangeShapes Go.WideShapes Go.ChangeAt Go.RowKit Go.Joins

theorem Try.own : ownKnob Try.prog.godebug = none := by kernel_rfl
theorem Try.laid : laidOutB Try.prog = true := by kernel_rfl
theorem list2 {α : Type} {xs : List α} (h : xs.length = 2) : ∃ a b, xs = [a, b] := by
  match xs, h with
  | [a, b], _ => exact ⟨a, b, rfl⟩
theorem array2 {cs : Array Value} (h : cs.size = 2) : ∃ a b, cs = #[a, b] := by
  obtain ⟨cs⟩ := cs
  match cs, h with
  | [a, b], _ => exact ⟨a, b, rfl⟩
section
variable {H : Type} {enc : TypeId × Value → H} {w : World} {base : Nat} {spare : Nat → Bool} {held : Bool} {r : Reach} {b0 : Nat} {v : Value} {d : DataW H} {p : List MemPlace}
theorem open_i64 (hv : Value.okWide Try.prog w r b0 3 v) (h : DataW.Trod enc Try.prog w base spare held 3 v d p) : ∃ n : Int, v = .int .i64 n ∧ -9223372036854775808 ≤ n ∧ n ≤ 9223372036854775807 := by
  obtain ⟨n, rfl, _, _, wn⟩ := open_int Try.underlying3 hv h
  have hb := bounds_i64 wn
  exact ⟨n, rfl, by omega, by omega⟩
def byE (x : Int) : List Value := [.int .u8 x]
theorem trod_byte {fuel : Nat} {cs : List Value} {y : DataW H × List MemPlace} (h : DataW.trod enc Try.prog w base spare held fuel 5 cs = some y) : ∃ x : Int, cs = byE x ∧ 0 ≤ x ∧ x ≤ 255 := by
  obtain ⟨x, e0, _, wx⟩ := DataW.trod_int Try.underlying5 h
  have hb := bounds_u8 wx
  exact ⟨x, e0, by omega, by omega⟩
theorem open_By (hv : Value.okWide Try.prog w r b0 26 v) (h : DataW.Trod enc Try.prog w base spare held 26 v d p) : ∃ a t : Int, v = .agg #[.int .u8 a, .int .u8 t] ∧ (0 ≤ a ∧ a ≤ 255) ∧ 0 ≤ t ∧ t ≤ 255 := by
  obtain ⟨cs, rfl, hsz⟩ := okWide_struct Try.underlying26 hv
  obtain ⟨c0, c1, rfl⟩ := array2 (hsz.trans (by kernel_rfl))
  obtain ⟨fuel, hf⟩ := h
  obtain ⟨xs, m, _, _, _, hl, hf⟩ := DataW.trod_struct Try.underlying26 (show DataW.trod enc Try.prog w base spare held fuel 26 [c0, c1] = some _ from hf)
  obtain ⟨y0, y1, rfl⟩ := list2 hl
  obtain ⟨a, e0, ha⟩ := trod_byte (show DataW.trod enc Try.prog w base spare held m 5 [c0] = some y0 from hf 0 _ rfl)
  obtain ⟨t, e1, ht⟩ := trod_byte (show DataW.trod enc Try.prog w base spare held m 5 [c1] = some y1 from hf 1 _ rfl)
  unfold byE at e0 e1
  simp only [List.cons.injEq, and_true] at e0 e1
  subst e0; subst e1
  exact ⟨a, t, rfl, ha, ht⟩
end
end Go.Proofs.Ytcilnbkmaoneaaa
