/-
  How the arguments of these laws open: a byte with its secret bits, two bits, two bytes with two bits and four numbers, a number of eight bits, a truth value, an integer.
-/
import Derived.Test.YtdmgdldadpkhgaaRows
import Derived.Test.YtdmgdldadpkhgaaLawKit
import Derived.Test.YtdmgdldadpkhgaaB8
import Derived.WalkKit
import Derived.ProofKit
import Derived.OpenShut
import Derived.Lib.SmallJoins
import Derived.Laws.IdiomArrays
set_option linter.unusedSimpArgs false
set_option linter.unusedVariables false
namespace Go.Proofs.Ytdmgdldadpkhgaa
open Go.ChangeShapes Go.WideShapes Go.ChangeAt Go.RowKit Go.Joins

theorem Try.own : ownKnob Try.prog.godebug = none := by kernel_rfl
theorem Try.laid : laidOutB Try.prog = true := by kernel_rfl

section
variable {H : Type} {enc : TypeId × Value → H} {w : World} {base : Nat} {spare : Nat → Bool} {held : Bool} {r : Reach} {b0 : Nat} {v : Value} {d : DataW H} {p : List MemPlace}

theorem trod_u8 {fuel : Nat} {c : Value} {y : DataW H × List MemPlace} (h : DataW.trod enc Try.prog w base spare held fuel 5 [c] = some y) : ∃ x : BitVec 8, c = B8 x := by
  obtain ⟨n, e0, _, wn⟩ := DataW.trod_int Try.underlying5 h
  simp only [List.cons.injEq, and_true] at e0
  subst e0
  have hb := bounds_u8 wn
  obtain ⟨x, rfl⟩ := u8_of n hb.1 (by omega)
  exact ⟨x, rfl⟩
theorem trod_b {fuel : Nat} {c : Value} {y : DataW H × List MemPlace} (h : DataW.trod enc Try.prog w base spare held fuel 4 [c] = some y) : ∃ x : Bool, c = .bool x := by
  obtain ⟨x, e0, _⟩ := DataW.trod_bool Try.underlying4 h
  simp only [List.cons.injEq, and_true] at e0
  exact ⟨x, e0⟩
theorem some2 {α : Type} {xs : List α} (h : xs.length = 2) : ∃ a b, xs = [a, b] := by
  match xs, h with
  | [a, b], _ => exact ⟨a, b, rfl⟩
theorem some4 {α : Type} {xs : List α} (h : xs.length = 4) : ∃ a b c d, xs = [a, b, c, d] := by
  match xs, h with
  | [a, b, c, d], _ => exact ⟨a, b, c, d, rfl⟩
theorem trod_TB {fuel : Nat} {c0 c1 : Value} {y : DataW H × List MemPlace} (h : DataW.trod enc Try.prog w base spare held fuel 23 [c0, c1] = some y) : ∃ x t : BitVec 8, c0 = B8 x ∧ c1 = B8 t := by
  obtain ⟨xs, n, _, _, _, hl, hf⟩ := DataW.trod_struct Try.underlying23 h
  obtain ⟨y0, y1, rfl⟩ := some2 hl
  obtain ⟨x, rfl⟩ := trod_u8 (show DataW.trod enc Try.prog w base spare held n 5 [c0] = some y0 from hf 0 _ rfl)
  obtain ⟨t, rfl⟩ := trod_u8 (show DataW.trod enc Try.prog w base spare held n 5 [c1] = some y1 from hf 1 _ rfl)
  exact ⟨x, t, rfl, rfl⟩
theorem trod_TBit {fuel : Nat} {c0 c1 : Value} {y : DataW H × List MemPlace} (h : DataW.trod enc Try.prog w base spare held fuel 25 [c0, c1] = some y) : ∃ x t : Bool, c0 = .bool x ∧ c1 = .bool t := by
  obtain ⟨xs, n, _, _, _, hl, hf⟩ := DataW.trod_struct Try.underlying25 h
  obtain ⟨y0, y1, rfl⟩ := some2 hl
  obtain ⟨x, rfl⟩ := trod_b (show DataW.trod enc Try.prog w base spare held n 4 [c0] = some y0 from hf 0 _ rfl)
  obtain ⟨t, rfl⟩ := trod_b (show DataW.trod enc Try.prog w base spare held n 4 [c1] = some y1 from hf 1 _ rfl)
  exact ⟨x, t, rfl, rfl⟩
theorem trod_Two {fuel : Nat} {c0 c1 c2 c3 : Value} {y : DataW H × List MemPlace} (h : DataW.trod enc Try.prog w base spare held fuel 27 [c0, c1, c2, c3] = some y) : ∃ c ct d dt : Bool, c0 = .bool c ∧ c1 = .bool ct ∧ c2 = .bool d ∧ c3 = .bool dt := by
  obtain ⟨xs, n, _, _, _, hl, hf⟩ := DataW.trod_struct Try.underlying27 h
  obtain ⟨y0, y1, rfl⟩ := some2 hl
  obtain ⟨c, ct, rfl, rfl⟩ := trod_TBit (show DataW.trod enc Try.prog w base spare held n 25 [c0, c1] = some y0 from hf 0 _ rfl)
  obtain ⟨d, dt, rfl, rfl⟩ := trod_TBit (show DataW.trod enc Try.prog w base spare held n 25 [c2, c3] = some y1 from hf 1 _ rfl)
  exact ⟨c, ct, d, dt, rfl, rfl, rfl, rfl⟩
theorem trod_By {fuel : Nat} {c0 c1 c2 c3 : Value} {y : DataW H × List MemPlace} (h : DataW.trod enc Try.prog w base spare held fuel 40 [c0, c1, c2, c3] = some y) : ∃ p q r v : BitVec 8, c0 = B8 p ∧ c1 = B8 q ∧ c2 = B8 r ∧ c3 = B8 v := by
  obtain ⟨y0, y1, y2, y3, n, _, h0, h1, h2, h3⟩ := trod_array4 Try.underlying40 (by kernel_rfl) h
  obtain ⟨p, rfl⟩ := trod_u8 h0
  obtain ⟨q, rfl⟩ := trod_u8 h1
  obtain ⟨r, rfl⟩ := trod_u8 h2
  obtain ⟨v, rfl⟩ := trod_u8 h3
  exact ⟨p, q, r, v, rfl, rfl, rfl, rfl⟩

theorem open_TB (hv : Value.okWide Try.prog w r b0 23 v) (h : DataW.Trod enc Try.prog w base spare held 23 v d p) : ∃ x t : BitVec 8, v = TB x t := by
  obtain ⟨cs, rfl, hsz⟩ := okWide_struct Try.underlying23 hv
  obtain ⟨c0, c1, rfl⟩ := array2 (hsz.trans (by kernel_rfl))
  obtain ⟨fuel, hf⟩ := h
  obtain ⟨x, t, rfl, rfl⟩ := trod_TB hf
  exact ⟨x, t, rfl⟩
theorem open_Two (hv : Value.okWide Try.prog w r b0 27 v) (h : DataW.Trod enc Try.prog w base spare held 27 v d p) : ∃ c ct d dt : Bool, v = .agg #[.bool c, .bool ct, .bool d, .bool dt] := by
  obtain ⟨cs, rfl, hsz⟩ := okWide_struct Try.underlying27 hv
  obtain ⟨c0, c1, c2, c3, rfl⟩ := array4 (hsz.trans (by kernel_rfl))
  obtain ⟨fuel, hf⟩ := h
  obtain ⟨c, ct, d, dt, rfl, rfl, rfl, rfl⟩ := trod_Two hf
  exact ⟨c, ct, d, dt, rfl⟩
theorem array12 {cs : Array Value} (h : cs.size = 12) : ∃ a b c d e f g i j k l m, cs = #[a, b, c, d, e, f, g, i, j, k, l, m] := by
  obtain ⟨cs⟩ := cs
  match cs, h with
  | [a, b, c, d, e, f, g, i, j, k, l, m], _ => exact ⟨a, b, c, d, e, f, g, i, j, k, l, m, rfl⟩
theorem open_Four (hv : Value.okWide Try.prog w r b0 42 v) (h : DataW.Trod enc Try.prog w base spare held 42 v d p) :
    ∃ (x t y s : BitVec 8) (c ct d dt : Bool) (p q r z : BitVec 8), v = .agg #[B8 x, B8 t, B8 y, B8 s, .bool c, .bool ct, .bool d, .bool dt, B8 p, B8 q, B8 r, B8 z] := by
  obtain ⟨cs, rfl, hsz⟩ := okWide_struct Try.underlying42 hv
  obtain ⟨a0, a1, a2, a3, a4, a5, a6, a7, a8, a9, a10, a11, rfl⟩ := array12 (hsz.trans (by kernel_rfl))
  obtain ⟨fuel, hf0⟩ := h
  obtain ⟨xs, n, _, _, _, hl, hf⟩ := DataW.trod_struct Try.underlying42 hf0
  obtain ⟨y0, y1, y2, y3, rfl⟩ := some4 hl
  obtain ⟨x, t, rfl, rfl⟩ := trod_TB (show DataW.trod enc Try.prog w base spare held n 23 [a0, a1] = some y0 from hf 0 _ rfl)
  obtain ⟨y, s, rfl, rfl⟩ := trod_TB (show DataW.trod enc Try.prog w base spare held n 23 [a2, a3] = some y1 from hf 1 _ rfl)
  obtain ⟨c, ct, d, dt, rfl, rfl, rfl, rfl⟩ := trod_Two (show DataW.trod enc Try.prog w base spare held n 27 [a4, a5, a6, a7] = some y2 from hf 2 _ rfl)
  obtain ⟨p, q, r, z, rfl, rfl, rfl, rfl⟩ := trod_By (show DataW.trod enc Try.prog w base spare held n 40 [a8, a9, a10, a11] = some y3 from hf 3 _ rfl)
  exact ⟨x, t, y, s, c, ct, d, dt, p, q, r, z, rfl⟩
theorem open_i64 (hv : Value.okWide Try.prog w r b0 3 v) (h : DataW.Trod enc Try.prog w base spare held 3 v d p) : ∃ n : Int, v = .int .i64 n ∧ -9223372036854775808 ≤ n ∧ n ≤ 9223372036854775807 := by
  obtain ⟨n, rfl, _, _, wn⟩ := open_int Try.underlying3 hv h
  have hb := bounds_i64 wn
  exact ⟨n, rfl, by omega, by omega⟩
theorem open_B8 (hv : Value.okWide Try.prog w r b0 5 v) (h : DataW.Trod enc Try.prog w base spare held 5 v d p) : ∃ x : BitVec 8, v = B8 x := by
  obtain ⟨n, rfl, _, _, wn⟩ := open_int Try.underlying5 hv h
  have hb := bounds_u8 wn
  obtain ⟨x, rfl⟩ := u8_of n hb.1 (by omega)
  exact ⟨x, rfl⟩
theorem open_Bo (hv : Value.okWide Try.prog w r b0 4 v) (h : DataW.Trod enc Try.prog w base spare held 4 v d p) : ∃ x : Bool, v = .bool x := by
  obtain ⟨x, rfl, _⟩ := open_bool Try.underlying4 hv h
  exact ⟨x, rfl⟩
end
end Go.Proofs.Ytdmgdldadpkhgaa
