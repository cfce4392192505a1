/-
  How the arguments of these laws open: a timer, an integer, a byte, a truth value, four bytes.
-/
import Derived.Test.YtcpegglfgfgekaaRows
import Derived.Test.YtcpegglfgfgekaaLawKit
import Derived.Test.YtcpegglfgfgekaaTm10
import Derived.WalkKit
import Derived.ProofKit
import Derived.OpenShut
import Derived.Lib.SmallJoins
import Derived.Laws.IdiomArrays
set_option linter.unusedSimpArgs false
set_option linter.unusedVariables false
set_option maxRecDepth 100000
namespace Go.Proofs.Ytcpegglfgfgekaa
open Go.ChangeShapes Go.WideShapes Go.ChangeAt Go.RowKit Go.Joins

theorem Try.own : ownKnob Try.prog.godebug = none := by kernel_rfl
theorem Try.laid : laidOutB Try.prog = true := by kernel_rfl
theorem list6 {α : Type} {xs : List α} (h : xs.length = 6) : ∃ a b c d e f, xs = [a, b, c, d, e, f] := by
  match xs, h with
  | [a, b, c, d, e, f], _ => exact ⟨a, b, c, d, e, f, rfl⟩
theorem array6 {cs : Array Value} (h : cs.size = 6) : ∃ a b c d e f, cs = #[a, b, c, d, e, f] := by
  obtain ⟨cs⟩ := cs
  match cs, h with
  | [a, b, c, d, e, f], _ => exact ⟨a, b, c, d, e, f, rfl⟩
section
variable {H : Type} {enc : TypeId × Value → H} {w : World} {base : Nat} {spare : Nat → Bool} {held : Bool} {r : Reach} {b0 : Nat} {v : Value} {d : DataW H} {p : List MemPlace}
theorem open_i64 (hv : Value.okWide Try.prog w r b0 3 v) (h : DataW.Trod enc Try.prog w base spare held 3 v d p) : ∃ n : Int, v = .int .i64 n ∧ -9223372036854775808 ≤ n ∧ n ≤ 9223372036854775807 := by
  obtain ⟨n, rfl, _, _, wn⟩ := open_int Try.underlying3 hv h
  have hb := bounds_i64 wn
  exact ⟨n, rfl, by omega, by omega⟩
theorem open_u8 (hv : Value.okWide Try.prog w r b0 5 v) (h : DataW.Trod enc Try.prog w base spare held 5 v d p) : ∃ n : Int, v = .int .u8 n ∧ 0 ≤ n ∧ n ≤ 255 := by
  obtain ⟨n, rfl, _, _, wn⟩ := open_int Try.underlying5 hv h
  have hb := bounds_u8 wn
  exact ⟨n, rfl, by omega, by omega⟩
theorem open_Bo (hv : Value.okWide Try.prog w r b0 4 v) (h : DataW.Trod enc Try.prog w base spare held 4 v d p) : ∃ x : Bool, v = .bool x := by
  obtain ⟨x, rfl, _⟩ := open_bool Try.underlying4 hv h
  exact ⟨x, rfl⟩
theorem trod_int1 {fuel : Nat} {c : Value} {y : DataW H × List MemPlace} (h : DataW.trod enc Try.prog w base spare held fuel 3 [c] = some y) : ∃ n : Int, c = .int .i64 n := by
  obtain ⟨n, e0, _⟩ := DataW.trod_int Try.underlying3 h
  simp only [List.cons.injEq, and_true] at e0
  exact ⟨n, e0⟩
theorem trod_b1 {fuel : Nat} {c : Value} {y : DataW H × List MemPlace} (h : DataW.trod enc Try.prog w base spare held fuel 4 [c] = some y) : ∃ n : Bool, c = .bool n := by
  obtain ⟨n, e0, _⟩ := DataW.trod_bool Try.underlying4 h
  simp only [List.cons.injEq, and_true] at e0
  exact ⟨n, e0⟩
theorem trod_u81 {fuel : Nat} {c : Value} {y : DataW H × List MemPlace} (h : DataW.trod enc Try.prog w base spare held fuel 5 [c] = some y) : ∃ n : Int, c = .int .u8 n ∧ 0 ≤ n ∧ n ≤ 255 := by
  obtain ⟨n, e0, _, wn⟩ := DataW.trod_int Try.underlying5 h
  simp only [List.cons.injEq, and_true] at e0
  have hb := bounds_u8 wn
  exact ⟨n, e0, by omega, by omega⟩
theorem open_T (hv : Value.okWide Try.prog w r b0 23 v) (h : DataW.Trod enc Try.prog w base spare held 23 v d p) : ∃ x : Tm, v = .agg #[.int .i64 x.l, .int .i64 x.c, .bool x.r, .bool x.a, .bool x.s, .bool x.g] := by
  obtain ⟨cs, rfl, hsz⟩ := okWide_struct Try.underlying23 hv
  obtain ⟨c0, c1, c2, c3, c4, c5, rfl⟩ := array6 (hsz.trans (by kernel_rfl))
  obtain ⟨fuel, hf⟩ := h
  obtain ⟨xs, m, _, _, _, hl, hf⟩ := DataW.trod_struct Try.underlying23 (show DataW.trod enc Try.prog w base spare held fuel 23 [c0, c1, c2, c3, c4, c5] = some _ from hf)
  obtain ⟨y0, y1, y2, y3, y4, y5, rfl⟩ := list6 hl
  obtain ⟨n0, rfl⟩ := trod_int1 (show DataW.trod enc Try.prog w base spare held m 3 [c0] = some y0 from hf 0 _ rfl)
  obtain ⟨n1, rfl⟩ := trod_int1 (show DataW.trod enc Try.prog w base spare held m 3 [c1] = some y1 from hf 1 _ rfl)
  obtain ⟨n2, rfl⟩ := trod_b1 (show DataW.trod enc Try.prog w base spare held m 4 [c2] = some y2 from hf 2 _ rfl)
  obtain ⟨n3, rfl⟩ := trod_b1 (show DataW.trod enc Try.prog w base spare held m 4 [c3] = some y3 from hf 3 _ rfl)
  obtain ⟨n4, rfl⟩ := trod_b1 (show DataW.trod enc Try.prog w base spare held m 4 [c4] = some y4 from hf 4 _ rfl)
  obtain ⟨n5, rfl⟩ := trod_b1 (show DataW.trod enc Try.prog w base spare held m 4 [c5] = some y5 from hf 5 _ rfl)
  exact ⟨⟨n0, n1, n2, n3, n4, n5⟩, rfl⟩
theorem open_A4 (hv : Value.okWide Try.prog w r b0 44 v) (h : DataW.Trod enc Try.prog w base spare held 44 v d p) :
    ∃ a b c e : Int, v = .agg #[.int .u8 a, .int .u8 b, .int .u8 c, .int .u8 e] ∧ (0 ≤ a ∧ a ≤ 255) ∧ (0 ≤ b ∧ b ≤ 255) ∧ (0 ≤ c ∧ c ≤ 255) ∧ 0 ≤ e ∧ e ≤ 255 := by
  have hv2 := hv
  simp only [Value.okWide, Try.underlying44] at hv2
  obtain ⟨cs, rfl, hsz, _⟩ := hv2
  obtain ⟨c0, c1, c2, c3, rfl⟩ := array4 (hsz.trans (by kernel_rfl))
  obtain ⟨fuel, hf⟩ := h
  obtain ⟨y0, y1, y2, y3, n, _, h0, h1, h2, h3⟩ := trod_array4 Try.underlying44 (by kernel_rfl) (show DataW.trod enc Try.prog w base spare held fuel 44 [c0, c1, c2, c3] = some _ from hf)
  obtain ⟨a, rfl, ha⟩ := trod_u81 h0
  obtain ⟨b, rfl, hb⟩ := trod_u81 h1
  obtain ⟨c, rfl, hc⟩ := trod_u81 h2
  obtain ⟨e, rfl, he⟩ := trod_u81 h3
  exact ⟨a, b, c, e, rfl, ha, hb, hc, he⟩
end
end Go.Proofs.Ytcpegglfgfgekaa
