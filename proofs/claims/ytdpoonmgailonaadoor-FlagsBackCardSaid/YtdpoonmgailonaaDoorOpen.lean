/-
  How the arguments of these laws open: a byte with its secret bits, a bit, a place with a bit, a text, a number of eight bits, an integer. A start that lays Go's table of cases.
-/
import Derived.Test.YtdpoonmgailonaaDoorRows
import Derived.Test.YtdpoonmgailonaaDoorLawKit
import Derived.Test.YtdpoonmgailonaaDoorB8
import Derived.WalkKit
import Derived.ProofKit
import Derived.OpenShut
import Derived.Lib.SmallJoins
import Derived.Laws.IdiomArrays
import Derived.LaidMore
import Derived.Lay
import Derived.ChangeMaps5
set_option linter.unusedSimpArgs false
set_option linter.unusedVariables false
namespace Go.Proofs.YtdpoonmgailonaaDoor
open Go.ChangeShapes Go.WideShapes Go.ChangeAt Go.RowKit Go.Joins

theorem Tryd.own : ownKnob Tryd.prog.godebug = none := by kernel_rfl
theorem Tryd.laid : laidOutB Tryd.prog = true := by kernel_rfl

abbrev laidC : List (String × DataW Unit) := [("unicode.CaseRanges", Rows.laid_unicode_CaseRanges)]
theorem case_var (os : Os) (args : Array Value) : ((World.laidAll Tryd.prog os laidC).forCall (fun _ _ => 0) ⟨#[], args, []⟩).Shaped Tryd.prog :=
  World.shaped_of_ZipB (by kernel_rfl) (by kernel_rfl)
theorem case_met (os : Os) (args : Array Value) : laidMetH Tryd.prog laidC ((World.laidAll Tryd.prog os laidC).forCall (fun _ _ => 0) ⟨#[], args, []⟩).memory := by
  rw [MakeChecks.laidMetH_plain _ _ _ (by kernel_rfl)]
  exact laidMet_laidAll _ (by kernel_rfl) (by kernel_rfl)

section
variable {H : Type} {enc : TypeId × Value → H} {w : World} {base : Nat} {spare : Nat → Bool} {held : Bool} {r : Reach} {b0 : Nat} {v : Value} {d : DataW H} {p : List MemPlace}

theorem trod_u8 {fuel : Nat} {c : Value} {y : DataW H × List MemPlace} (h : DataW.trod enc Tryd.prog w base spare held fuel 5 [c] = some y) : ∃ x : BitVec 8, c = B8 x := by
  obtain ⟨n, e0, _, wn⟩ := DataW.trod_int Tryd.underlying5 h
  simp only [List.cons.injEq, and_true] at e0
  subst e0
  have hb := bounds_u8 wn
  obtain ⟨x, rfl⟩ := u8_of n hb.1 (by omega)
  exact ⟨x, rfl⟩
theorem trod_b {fuel : Nat} {c : Value} {y : DataW H × List MemPlace} (h : DataW.trod enc Tryd.prog w base spare held fuel 4 [c] = some y) : ∃ x : Bool, c = .bool x := by
  obtain ⟨x, e0, _⟩ := DataW.trod_bool Tryd.underlying4 h
  simp only [List.cons.injEq, and_true] at e0
  exact ⟨x, e0⟩
theorem some2 {α : Type} {xs : List α} (h : xs.length = 2) : ∃ a b, xs = [a, b] := by
  match xs, h with
  | [a, b], _ => exact ⟨a, b, rfl⟩
theorem trod_TB {fuel : Nat} {c0 c1 : Value} {y : DataW H × List MemPlace} (h : DataW.trod enc Tryd.prog w base spare held fuel 23 [c0, c1] = some y) : ∃ x t : BitVec 8, c0 = B8 x ∧ c1 = B8 t := by
  obtain ⟨xs, n, _, _, _, hl, hf⟩ := DataW.trod_struct Tryd.underlying23 h
  obtain ⟨y0, y1, rfl⟩ := some2 hl
  obtain ⟨x, rfl⟩ := trod_u8 (show DataW.trod enc Tryd.prog w base spare held n 5 [c0] = some y0 from hf 0 _ rfl)
  obtain ⟨t, rfl⟩ := trod_u8 (show DataW.trod enc Tryd.prog w base spare held n 5 [c1] = some y1 from hf 1 _ rfl)
  exact ⟨x, t, rfl, rfl⟩
theorem trod_TBit {fuel : Nat} {c0 c1 : Value} {y : DataW H × List MemPlace} (h : DataW.trod enc Tryd.prog w base spare held fuel 25 [c0, c1] = some y) : ∃ x t : Bool, c0 = .bool x ∧ c1 = .bool t := by
  obtain ⟨xs, n, _, _, _, hl, hf⟩ := DataW.trod_struct Tryd.underlying25 h
  obtain ⟨y0, y1, rfl⟩ := some2 hl
  obtain ⟨x, rfl⟩ := trod_b (show DataW.trod enc Tryd.prog w base spare held n 4 [c0] = some y0 from hf 0 _ rfl)
  obtain ⟨t, rfl⟩ := trod_b (show DataW.trod enc Tryd.prog w base spare held n 4 [c1] = some y1 from hf 1 _ rfl)
  exact ⟨x, t, rfl, rfl⟩
theorem open_TB (hv : Value.okWide Tryd.prog w r b0 23 v) (h : DataW.Trod enc Tryd.prog w base spare held 23 v d p) : ∃ x t : BitVec 8, v = TB x t := by
  obtain ⟨cs, rfl, hsz⟩ := okWide_struct Tryd.underlying23 hv
  obtain ⟨c0, c1, rfl⟩ := array2 (hsz.trans (by kernel_rfl))
  obtain ⟨fuel, hf⟩ := h
  obtain ⟨x, t, rfl, rfl⟩ := trod_TB hf
  exact ⟨x, t, rfl⟩
theorem open_TBit (hv : Value.okWide Tryd.prog w r b0 25 v) (h : DataW.Trod enc Tryd.prog w base spare held 25 v d p) : ∃ x t : Bool, v = TBit x t := by
  obtain ⟨cs, rfl, hsz⟩ := okWide_struct Tryd.underlying25 hv
  obtain ⟨c0, c1, rfl⟩ := array2 (hsz.trans (by kernel_rfl))
  obtain ⟨fuel, hf⟩ := h
  obtain ⟨x, t, rfl, rfl⟩ := trod_TBit hf
  exact ⟨x, t, rfl⟩
theorem trod_i64 {fuel : Nat} {c : Value} {y : DataW H × List MemPlace} (h : DataW.trod enc Tryd.prog w base spare held fuel 3 [c] = some y) : ∃ n : Int, c = .int .i64 n ∧ -9223372036854775808 ≤ n ∧ n ≤ 9223372036854775807 := by
  obtain ⟨n, e0, _, wn⟩ := DataW.trod_int Tryd.underlying3 h
  simp only [List.cons.injEq, and_true] at e0
  subst e0
  have hb := bounds_i64 wn
  exact ⟨n, rfl, by omega, by omega⟩
theorem open_Place (hv : Value.okWide Tryd.prog w r b0 27 v) (h : DataW.Trod enc Tryd.prog w base spare held 27 v d p) :
    ∃ (n : Int) (x t : Bool), v = .agg #[.int .i64 n, .bool x, .bool t] ∧ -9223372036854775808 ≤ n ∧ n ≤ 9223372036854775807 := by
  obtain ⟨cs, rfl, hsz⟩ := okWide_struct Tryd.underlying27 hv
  obtain ⟨c0, c1, c2, rfl⟩ := array3 (hsz.trans (by kernel_rfl))
  obtain ⟨fuel, hf0⟩ := h
  obtain ⟨xs, n, _, _, _, hl, hf⟩ := DataW.trod_struct Tryd.underlying27 hf0
  obtain ⟨y0, y1, rfl⟩ := some2 hl
  obtain ⟨k, rfl, h1, h2⟩ := trod_i64 (show DataW.trod enc Tryd.prog w base spare held n 3 [c0] = some y0 from hf 0 _ rfl)
  obtain ⟨x, t, rfl, rfl⟩ := trod_TBit (show DataW.trod enc Tryd.prog w base spare held n 25 [c1, c2] = some y1 from hf 1 _ rfl)
  exact ⟨k, x, t, rfl, h1, h2⟩
theorem open_S (hv : Value.okWide Tryd.prog w r b0 9 v) (h : DataW.Trod enc Tryd.prog w base spare held 9 v d p) : ∃ s : ByteArray, v = .string s := by
  obtain ⟨s, rfl, _⟩ := Go.ChangeMaps.open_string Tryd.underlying9 hv h
  exact ⟨s, rfl⟩
theorem open_i64 (hv : Value.okWide Tryd.prog w r b0 3 v) (h : DataW.Trod enc Tryd.prog w base spare held 3 v d p) : ∃ n : Int, v = .int .i64 n ∧ -9223372036854775808 ≤ n ∧ n ≤ 9223372036854775807 := by
  obtain ⟨n, rfl, _, _, wn⟩ := open_int Tryd.underlying3 hv h
  have hb := bounds_i64 wn
  exact ⟨n, rfl, by omega, by omega⟩
theorem open_B8 (hv : Value.okWide Tryd.prog w r b0 5 v) (h : DataW.Trod enc Tryd.prog w base spare held 5 v d p) : ∃ x : BitVec 8, v = B8 x := by
  obtain ⟨n, rfl, _, _, wn⟩ := open_int Tryd.underlying5 hv h
  have hb := bounds_u8 wn
  obtain ⟨x, rfl⟩ := u8_of n hb.1 (by omega)
  exact ⟨x, rfl⟩
theorem open_Bo (hv : Value.okWide Tryd.prog w r b0 4 v) (h : DataW.Trod enc Tryd.prog w base spare held 4 v d p) : ∃ x : Bool, v = .bool x := by
  obtain ⟨x, rfl, _⟩ := open_bool Tryd.underlying4 hv h
  exact ⟨x, rfl⟩
end
end Go.Proofs.YtdpoonmgailonaaDoor
