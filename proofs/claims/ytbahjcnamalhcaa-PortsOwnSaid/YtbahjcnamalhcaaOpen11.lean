/-
  How the arguments of layer 11's laws open: what comes in, calls, an integer, a byte.
-/
import Derived.Test.YtbahjcnamalhcaaOpenS
import Derived.Test.YtbahjcnamalhcaaRef11
set_option linter.unusedSimpArgs false
set_option linter.unusedVariables false
set_option maxRecDepth 100000
namespace Go.Proofs.Ytbahjcnamalhcaa
open Go.ChangeShapes Go.WideShapes Go.ChangeAt Go.RowKit Go.Joins

theorem Try.own : ownKnob Try.prog.godebug = none := by kernel_rfl
theorem Try.laid : laidOutB Try.prog = true := by kernel_rfl
theorem list4O {α : Type} {xs : List α} (h : xs.length = 4) : ∃ a b c d, xs = [a, b, c, d] := by
  match xs, h with
  | [a, b, c, d], _ => exact ⟨a, b, c, d, rfl⟩
theorem list5O {α : Type} {xs : List α} (h : xs.length = 5) : ∃ a b c d e, xs = [a, b, c, d, e] := by
  match xs, h with
  | [a, b, c, d, e], _ => exact ⟨a, b, c, d, e, rfl⟩
theorem array2O {cs : Array Value} (h : cs.size = 2) : ∃ a b, cs = #[a, b] := by
  obtain ⟨cs⟩ := cs
  match cs, h with
  | [a, b], _ => exact ⟨a, b, rfl⟩
/-- A call: 0 a Read of reg, another one a Write of a byte there, in a cycle. -/
structure Cl where
  ask : Int
  reg : Int
  v : Int
  t : Int
  cy : Int
instance : Inhabited Cl := ⟨⟨0, 0, 0, 0, 0⟩⟩
def clE (x : Cl) : List Value := [.int .i64 x.ask, .int .i64 x.reg, .int .u8 x.v, .int .u8 x.t, .int .i64 x.cy]
def clG (x : Cl) : Prop := (-9223372036854775808 ≤ x.reg ∧ x.reg ≤ 9223372036854775807) ∧ (0 ≤ x.v ∧ x.v ≤ 255) ∧ 0 ≤ x.t ∧ x.t ≤ 255
theorem under_bs : Try.prog.underlying 22 = some (.slice 5) := by kernel_rfl
theorem under_cl : Try.prog.underlying 25 = some (.slice 42) := by kernel_rfl
section
variable {H : Type} {enc : TypeId × Value → H} {w : World} {base : Nat} {spare : Nat → Bool} {held : Bool} {r : Reach} {b0 : Nat} {v : Value} {d : DataW H} {p : List MemPlace}
theorem open_i64 (hv : Value.okWide Try.prog w r b0 3 v) (h : DataW.Trod enc Try.prog w base spare held 3 v d p) : ∃ n : Int, v = .int .i64 n ∧ -9223372036854775808 ≤ n ∧ n ≤ 9223372036854775807 := by
  obtain ⟨n, rfl, _, _, wn⟩ := open_int Try.underlying3 hv h
  have hb := bounds_i64 wn
  exact ⟨n, rfl, by omega, by omega⟩
theorem open_By (hv : Value.okWide Try.prog w r b0 40 v) (h : DataW.Trod enc Try.prog w base spare held 40 v d p) : ∃ a t : Int, v = .agg #[.int .u8 a, .int .u8 t] ∧ (0 ≤ a ∧ a ≤ 255) ∧ 0 ≤ t ∧ t ≤ 255 := by
  obtain ⟨cs, rfl, hsz⟩ := okWide_struct Try.underlying40 hv
  obtain ⟨c0, c1, rfl⟩ := array2O (hsz.trans (by kernel_rfl))
  obtain ⟨fuel, hf⟩ := h
  obtain ⟨a, t, rfl, rfl, ha, ht⟩ := trod_ByS (show DataW.trod enc Try.prog w base spare held fuel 40 [c0, c1] = some _ from hf)
  exact ⟨a, t, rfl, ha, ht⟩
/-- Bytes that a slice holds, wherever it lies. -/
def InB (w : World) (v : Value) (l : List Int) : Prop := HoldsW bE 1 w v l ∧ (∀ x ∈ l, 0 ≤ x ∧ x ≤ 255) ∧ l.length ≤ 9223372036854775807 ∧ (0 < l.length → ∀ g, v.ownBlock = some g → g < w.heap.size)
theorem trod_bs {fuel : Nat} {c : Value} {spare : Nat → Bool} {y : DataW H × List MemPlace} (hf : DataW.trod enc Try.prog w 0 spare held fuel 22 [c] = some y) : ∃ l : List Int, InB w c l :=
  open_sliceS bE 1 (fun x => 0 ≤ x ∧ x ≤ 255) under_bs (by kernel_rfl) (by omega) (fun n cs y h => by
    obtain ⟨x, e, _, wx⟩ := DataW.trod_int Try.underlying5 h
    have hb := bounds_u8 wx
    exact ⟨x, e, by omega, by omega⟩) hf
theorem open_In (hv : Value.okWide Try.prog w r b0 24 v) (h : DataW.Trod enc Try.prog w 0 spare held 24 v d p) : ∃ v1 v2 l1 l2, v = .agg #[v1, v2] ∧ InB w v1 l1 ∧ InB w v2 l2 := by
  obtain ⟨cs, rfl, hsz⟩ := okWide_struct Try.underlying24 hv
  obtain ⟨c0, c1, rfl⟩ := array2O (hsz.trans (by kernel_rfl))
  obtain ⟨fuel, hf⟩ := h
  obtain ⟨xs, m, _, _, _, hl, hf⟩ := DataW.trod_struct Try.underlying24 (show DataW.trod enc Try.prog w 0 spare held fuel 24 [c0, c1] = some _ from hf)
  obtain ⟨y0, y1, rfl⟩ := list2S hl
  obtain ⟨l1, h1⟩ := trod_bs (show DataW.trod enc Try.prog w 0 spare held m 22 [c0] = some y0 from hf 0 _ rfl)
  obtain ⟨l2, h2⟩ := trod_bs (show DataW.trod enc Try.prog w 0 spare held m 22 [c1] = some y1 from hf 1 _ rfl)
  exact ⟨c0, c1, l1, l2, rfl, h1, h2⟩
theorem trod_cl {fuel : Nat} {cs : List Value} {spare : Nat → Bool} {y : DataW H × List MemPlace} (h : DataW.trod enc Try.prog w 0 spare held fuel 42 cs = some y) : ∃ x : Cl, cs = clE x ∧ clG x := by
  obtain ⟨xs, m, _, _, hcl, hl, hf⟩ := DataW.trod_struct Try.underlying42 h
  obtain ⟨c0, c1, c2, c3, c4, rfl⟩ := list5O (hcl.trans (by kernel_rfl))
  obtain ⟨y0, y1, y2, y3, rfl⟩ := list4O hl
  obtain ⟨q, rfl, _⟩ := trod_intS (show DataW.trod enc Try.prog w 0 spare held m 3 [c0] = some y0 from hf 0 _ rfl)
  obtain ⟨g, rfl, hg⟩ := trod_intS (show DataW.trod enc Try.prog w 0 spare held m 3 [c1] = some y1 from hf 1 _ rfl)
  obtain ⟨a, t, rfl, rfl, ha, ht⟩ := trod_ByS (show DataW.trod enc Try.prog w 0 spare held m 40 [c2, c3] = some y2 from hf 2 _ rfl)
  obtain ⟨cy, rfl, _⟩ := trod_intS (show DataW.trod enc Try.prog w 0 spare held m 3 [c4] = some y3 from hf 3 _ rfl)
  exact ⟨⟨q, g, a, t, cy⟩, rfl, hg, ha, ht⟩
theorem open_Cl (hv : Value.okWide Try.prog w r b0 25 v) (h : DataW.Trod enc Try.prog w 0 spare held 25 v d p) :
    ∃ l : List Cl, HoldsW clE 5 w v l ∧ (∀ x ∈ l, clG x) ∧ l.length ≤ 9223372036854775807 ∧ (0 < l.length → ∀ g, v.ownBlock = some g → g < w.heap.size) := by
  obtain ⟨fuel, hf⟩ := h
  rw [slice_cellsS under_cl hv] at hf
  exact open_sliceS clE 5 clG under_cl (by kernel_rfl) (by omega) (fun n cs y h => trod_cl h) hf
end
end Go.Proofs.Ytbahjcnamalhcaa
