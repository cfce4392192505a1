/-
  How the arguments of these laws open: a byte with its secret bits, a bit, three numbers of eight bits, an integer.
-/
import Derived.Test.YtbbiegbfoimcaaaRows
import Derived.Test.YtbbiegbfoimcaaaLawKit
import Derived.Test.YtbbiegbfoimcaaaB8
import Derived.WalkKit
import Derived.ProofKit
import Derived.OpenShut
import Derived.Lib.SmallJoins
import Derived.Laws.IdiomArrays
set_option linter.unusedSimpArgs false
set_option linter.unusedVariables false
namespace Go.Proofs.Ytbbiegbfoimcaaa
open Go.ChangeShapes Go.WideShapes Go.ChangeAt Go.RowKit Go.Joins

theorem Try.own : ownKnob Try.prog.godebug = none := by kernel_rfl
theorem Try.laid : laidOutB Try.prog = true := by kernel_rfl

section
variable {H : Type} {enc : TypeId × Value → H} {w : World} {base : Nat} {spare : Nat → Bool} {held : Bool} {r : Reach} {b0 : Nat} {v : Value} {d : DataW H} {p : List MemPlace}

theorem trod_u8 {fuel : Nat} {c : Value} {y : DataW H × List MemPlace} (h : DataW.trod enc Try.prog w base spare held fuel 5 [c] = some y) : ∃ x : BitVec 8, c = B8 x := by
  obtain ⟨n, e0, _, wn⟩ := DataW.trod_int Try.underlying5 h
  simp only [List.cons.injEq, and_true] at e0
  subst e0
  have hb := bounds_u8 wn
  obtain ⟨x, rfl⟩ := u8_of n hb.1 (by omega)
  exact ⟨x, rfl⟩
theorem trod_b {fuel : Nat} {c : Value} {y : DataW H × List MemPlace} (h : DataW.trod enc Try.prog w base spare held fuel 4 [c] = some y) : ∃ x : Bool, c = .bool x := by
  obtain ⟨x, e0, _⟩ := DataW.trod_bool Try.underlying4 h
  simp only [List.cons.injEq, and_true] at e0
  exact ⟨x, e0⟩

theorem open_TB (hv : Value.okWide Try.prog w r b0 23 v) (h : DataW.Trod enc Try.prog w base spare held 23 v d p) : ∃ x t : BitVec 8, v = TB x t := by
  obtain ⟨c0, c1, y0, y1, m, rfl, _, _, h0, h1⟩ := open_agg2 Try.underlying23 (by kernel_rfl) (by kernel_rfl) hv h
  obtain ⟨x, rfl⟩ := trod_u8 h0
  obtain ⟨t, rfl⟩ := trod_u8 h1
  exact ⟨x, t, rfl⟩
theorem open_TBit (hv : Value.okWide Try.prog w r b0 30 v) (h : DataW.Trod enc Try.prog w base spare held 30 v d p) : ∃ x t : Bool, v = TBit x t := by
  obtain ⟨c0, c1, y0, y1, m, rfl, _, _, h0, h1⟩ := open_agg2 Try.underlying30 (by kernel_rfl) (by kernel_rfl) hv h
  obtain ⟨x, rfl⟩ := trod_b h0
  obtain ⟨t, rfl⟩ := trod_b h1
  exact ⟨x, t, rfl⟩
theorem open_u3 (hv : Value.okWide Try.prog w r b0 43 v) (h : DataW.Trod enc Try.prog w base spare held 43 v d p) : ∃ x y z : BitVec 8, v = .agg #[B8 x, B8 y, B8 z] := by
  have hv' := hv
  simp only [Value.okWide, Try.underlying43] at hv'
  obtain ⟨cs, rfl, hs, _⟩ := hv'
  obtain ⟨c0, c1, c2, rfl⟩ := array3 (hs.trans (by kernel_rfl))
  obtain ⟨fuel, hf⟩ := h
  obtain ⟨y0, y1, y2, n, _, h0, h1, h2⟩ := trod_array3 Try.underlying43 (by kernel_rfl) hf
  obtain ⟨x, rfl⟩ := trod_u8 h0
  obtain ⟨y, rfl⟩ := trod_u8 h1
  obtain ⟨z, rfl⟩ := trod_u8 h2
  exact ⟨x, y, z, rfl⟩
theorem open_i64 (hv : Value.okWide Try.prog w r b0 3 v) (h : DataW.Trod enc Try.prog w base spare held 3 v d p) : ∃ n : Int, v = .int .i64 n ∧ -9223372036854775808 ≤ n ∧ n ≤ 9223372036854775807 := by
  obtain ⟨n, rfl, _, _, wn⟩ := open_int Try.underlying3 hv h
  have hb := bounds_i64 wn
  exact ⟨n, rfl, by omega, by omega⟩
end
end Go.Proofs.Ytbbiegbfoimcaaa
