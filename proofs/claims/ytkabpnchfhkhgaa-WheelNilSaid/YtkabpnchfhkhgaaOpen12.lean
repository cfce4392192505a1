/-
  How the arguments of layer 12's laws open: calls, a call, an integer, two of them, two rows of calls.
-/
import Derived.Test.YtkabpnchfhkhgaaOpenS
import Derived.Test.YtkabpnchfhkhgaaRolls12
set_option linter.unusedSimpArgs false
set_option linter.unusedVariables false
set_option maxRecDepth 100000
namespace Go.Proofs.Ytkabpnchfhkhgaa
open Go.ChangeShapes Go.WideShapes Go.ChangeAt Go.RowKit Go.Joins

theorem Try.own : ownKnob Try.prog.godebug = none := by kernel_rfl
theorem Try.laid : laidOutB Try.prog = true := by kernel_rfl
theorem list3O {α : Type} {xs : List α} (h : xs.length = 3) : ∃ a b c, xs = [a, b, c] := by
  match xs, h with
  | [a, b, c], _ => exact ⟨a, b, c, rfl⟩
theorem array2O {cs : Array Value} (h : cs.size = 2) : ∃ a b, cs = #[a, b] := by
  obtain ⟨cs⟩ := cs
  match cs, h with
  | [a, b], _ => exact ⟨a, b, rfl⟩
theorem array3O {cs : Array Value} (h : cs.size = 3) : ∃ a b c, cs = #[a, b, c] := by
  obtain ⟨cs⟩ := cs
  match cs, h with
  | [a, b, c], _ => exact ⟨a, b, c, rfl⟩
theorem under_wc : Try.prog.underlying 22 = some (.slice 36) := by kernel_rfl
theorem under_two : Try.prog.underlying 42 = some (.array 2 3) := by kernel_rfl
theorem under_pair : Try.prog.underlying 51 = some (.array 2 22) := by kernel_rfl
section
variable {H : Type} {enc : TypeId × Value → H} {w : World} {base : Nat} {spare : Nat → Bool} {held : Bool} {r : Reach} {b0 : Nat} {v : Value} {d : DataW H} {p : List MemPlace}
theorem open_i64 (hv : Value.okWide Try.prog w r b0 3 v) (h : DataW.Trod enc Try.prog w base spare held 3 v d p) : ∃ n : Int, v = .int .i64 n ∧ -9223372036854775808 ≤ n ∧ n ≤ 9223372036854775807 := by
  obtain ⟨n, rfl, _, _, wn⟩ := open_int Try.underlying3 hv h
  have hb := bounds_i64 wn
  exact ⟨n, rfl, by omega, by omega⟩
theorem open_two (hv : Value.okWide Try.prog w r b0 42 v) (h : DataW.Trod enc Try.prog w base spare held 42 v d p) : ∃ a b : Int, v = .agg #[.int .i64 a, .int .i64 b] := by
  have hv2 := hv
  simp only [Value.okWide, under_two] at hv2
  obtain ⟨cs, rfl, hsz, _⟩ := hv2
  obtain ⟨c0, c1, rfl⟩ := array2O (hsz.trans (by kernel_rfl))
  obtain ⟨fuel, hf⟩ := h
  obtain ⟨xs, m, _, _, _, hl, hel⟩ := DataW.trod_array under_two (show DataW.trod enc Try.prog w base spare held fuel 42 [c0, c1] = some _ from hf)
  obtain ⟨y0, y1, rfl⟩ := list2S hl
  have c1' : Try.prog.cellsOf 3 = 1 := by kernel_rfl
  have h0 := hel 0 (by omega)
  have h1 := hel 1 (by omega)
  rw [c1'] at h0 h1
  obtain ⟨a, rfl, _⟩ := trod_intS (show DataW.trod enc Try.prog w base spare held m 3 [c0] = some y0 from h0)
  obtain ⟨b, rfl, _⟩ := trod_intS (show DataW.trod enc Try.prog w base spare held m 3 [c1] = some y1 from h1)
  exact ⟨a, b, rfl⟩
theorem trod_wc {fuel : Nat} {cs : List Value} {base : Nat} {spare : Nat → Bool} {y : DataW H × List MemPlace} (h : DataW.trod enc Try.prog w base spare held fuel 36 cs = some y) : ∃ x : Wc, cs = wcE x ∧ wcG x := by
  obtain ⟨xs, m, _, _, hcl, hl, hf⟩ := DataW.trod_struct Try.underlying36 h
  obtain ⟨c0, c1, c2, rfl⟩ := list3O (hcl.trans (by kernel_rfl))
  obtain ⟨y0, y1, rfl⟩ := list2S hl
  obtain ⟨g, rfl, hg⟩ := trod_intS (show DataW.trod enc Try.prog w base spare held m 3 [c0] = some y0 from hf 0 _ rfl)
  obtain ⟨a, t, rfl, rfl, ha, ht⟩ := trod_ByS (show DataW.trod enc Try.prog w base spare held m 34 [c1, c2] = some y1 from hf 1 _ rfl)
  exact ⟨⟨g, a, t⟩, rfl, hg, ha, ht⟩
theorem open_Op (hv : Value.okWide Try.prog w r b0 36 v) (h : DataW.Trod enc Try.prog w base spare held 36 v d p) : ∃ g a t : Int, v = .agg #[.int .i64 g, .int .u8 a, .int .u8 t] := by
  obtain ⟨cs, rfl, hsz⟩ := okWide_struct Try.underlying36 hv
  obtain ⟨c0, c1, c2, rfl⟩ := array3O (hsz.trans (by kernel_rfl))
  obtain ⟨fuel, hf⟩ := h
  obtain ⟨⟨g, a, t⟩, e, _⟩ := trod_wc (show DataW.trod enc Try.prog w base spare held fuel 36 [c0, c1, c2] = some _ from hf)
  unfold wcE at e
  injection e with e0 e
  injection e with e1 e
  injection e with e2 e
  subst e0 e1 e2
  exact ⟨g, a, t, rfl⟩
theorem trod_wcs {fuel : Nat} {c : Value} {spare : Nat → Bool} {y : DataW H × List MemPlace} (hf : DataW.trod enc Try.prog w 0 spare held fuel 22 [c] = some y) :
    ∃ l : List Wc, HoldsW wcE 3 w c l ∧ (∀ x ∈ l, wcG x) ∧ l.length ≤ 9223372036854775807 ∧ (0 < l.length → ∀ g, c.ownBlock = some g → g < w.heap.size) :=
  open_sliceS wcE 3 wcG under_wc (by kernel_rfl) (by omega) (fun n cs y h => trod_wc h) hf
theorem open_Wc (hv : Value.okWide Try.prog w r b0 22 v) (h : DataW.Trod enc Try.prog w 0 spare held 22 v d p) :
    ∃ l : List Wc, HoldsW wcE 3 w v l ∧ (∀ x ∈ l, wcG x) ∧ l.length ≤ 9223372036854775807 ∧ (0 < l.length → ∀ g, v.ownBlock = some g → g < w.heap.size) := by
  obtain ⟨fuel, hf⟩ := h
  rw [slice_cellsS under_wc hv] at hf
  exact trod_wcs hf
theorem open_pair (hv : Value.okWide Try.prog w r b0 51 v) (h : DataW.Trod enc Try.prog w 0 spare held 51 v d p) :
    ∃ v1 v2, ∃ l m : List Wc, v = .agg #[v1, v2] ∧ HoldsW wcE 3 w v1 l ∧ HoldsW wcE 3 w v2 m ∧ (∀ x ∈ l, wcG x) ∧ ∀ x ∈ m, wcG x := by
  have hv2 := hv
  simp only [Value.okWide, under_pair] at hv2
  obtain ⟨cs, rfl, hsz, _⟩ := hv2
  obtain ⟨c0, c1, rfl⟩ := array2O (hsz.trans (by kernel_rfl))
  obtain ⟨fuel, hf⟩ := h
  obtain ⟨xs, m, _, _, _, hl, hel⟩ := DataW.trod_array under_pair (show DataW.trod enc Try.prog w 0 spare held fuel 51 [c0, c1] = some _ from hf)
  obtain ⟨y0, y1, rfl⟩ := list2S hl
  have c1' : Try.prog.cellsOf 22 = 1 := by kernel_rfl
  have h0 := hel 0 (by omega)
  have h1 := hel 1 (by omega)
  rw [c1'] at h0 h1
  obtain ⟨l, a1, a2, _⟩ := trod_wcs (show DataW.trod enc Try.prog w 0 spare held m 22 [c0] = some y0 from h0)
  obtain ⟨l', b1, b2, _⟩ := trod_wcs (show DataW.trod enc Try.prog w 0 spare held m 22 [c1] = some y1 from h1)
  exact ⟨c0, c1, l, l', rfl, a1, b1, a2, b2⟩
end
end Go.Proofs.Ytkabpnchfhkhgaa
