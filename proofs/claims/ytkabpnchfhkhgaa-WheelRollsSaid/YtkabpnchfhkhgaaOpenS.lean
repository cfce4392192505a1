/-
  How an argument that is a slice opens, of any layer.
-/
import Derived.Test.YtkabpnchfhkhgaaRows
import Derived.Test.YtkabpnchfhkhgaaLawKit
import Derived.Test.YtkabpnchfhkhgaaEnts
import Derived.WalkKit
import Derived.ProofKit
import Derived.OpenShut
import Derived.Lib.SmallJoins
import Derived.Laws.IdiomArrays
import Derived.LaidMore
import Derived.Lay
import Derived.FnData
import Derived.ChangeMaps5
import Derived.ChangeSlices
import Derived.DataReads
import Derived.Stop.LaidErr
set_option linter.unusedSimpArgs false
set_option linter.unusedVariables false
set_option maxRecDepth 100000
namespace Go.Proofs.Ytkabpnchfhkhgaa
open Go.ChangeShapes Go.WideShapes Go.ChangeAt Go.RowKit Go.Joins

section
variable {H : Type} {enc : TypeId × Value → H} {w : World} {base : Nat} {spare : Nat → Bool} {held : Bool} {r : Reach} {b0 : Nat} {v : Value} {d : DataW H} {p : List MemPlace}
theorem spot_noneS {w : World} {a : Addr} {u : Value} (h : w.cell? a = some u) : a.spot = none ∧ a.block < w.heap.size := by
  unfold World.cell? at h
  split at h
  · rename_i c e f hh
    split at h
    · cases h
    · rename_i hs
      exact ⟨by simpa using hs, (Array.getElem?_eq_some_iff.1 hh).1⟩
  · cases h
/-- A slice opens: its elements by their cells. -/
theorem open_sliceS {α : Type} [Inhabited α] (en : α → List Value) (k : Nat) (good : α → Prop) {t e : TypeId} (hu : Try.prog.underlying t = some (.slice e)) (hc : Try.prog.cellsOf e = k) (hk : 0 < k) {spare : Nat → Bool} {fuel : Nat} {c : Value} {y : DataW H × List MemPlace}
    (helem : ∀ n cs y, DataW.trod enc Try.prog w 0 spare held n e cs = some y → ∃ x : α, cs = en x ∧ good x)
    (hf : DataW.trod enc Try.prog w 0 spare held fuel t [c] = some y) :
    ∃ l : List α, HoldsW en k w c l ∧ (∀ x ∈ l, good x) ∧ l.length ≤ 9223372036854775807 ∧ (0 < l.length → ∀ g, c.ownBlock = some g → g < w.heap.size) := by
  rcases DataW.trod_slice hu hf with ⟨hcs, _⟩ | ⟨a, len, cap, elems, rest, n, _, hcs, _, _, hl, hm, hlen, hel, _⟩
  · simp only [List.cons.injEq, and_true] at hcs
    subst hcs
    exact ⟨[], .inl ⟨⟨_, _, rfl⟩, rfl⟩, fun x hx => by simp at hx, by simp, by simp⟩
  · simp only [List.cons.injEq, and_true] at hcs
    subst hcs
    by_cases h0 : len = 0
    · subst h0
      exact ⟨[], .inl ⟨⟨_, _, rfl⟩, rfl⟩, fun x hx => by simp at hx, by simp, by simp⟩
    have each0 : ∀ i, i < len → ∃ x : α, (∀ j u, (en x)[j]? = some u → w.cell? ((a.add (i * k)).add j) = some u) ∧ good x ∧ (en x).length = k := fun i hi => by
      have h1 := hel i hi
      rw [hc, List.getElem?_eq_getElem (by omega)] at h1
      cases hcells : w.cells? 0 (a.add (i * k)) k with
      | none => rw [hcells] at h1; cases h1
      | some cs =>
        rw [hcells] at h1
        obtain ⟨x, hx, hb⟩ := helem n cs _ h1
        obtain ⟨_, hn, hat⟩ := World.cells?_some hcells
        subst hx
        refine ⟨x, fun j u hu => ?_, hb, hn⟩
        have hj : j < k := by rw [← hn]; exact (List.getElem?_eq_some_iff.1 hu).1
        exact (hat j hj).trans hu
    have hspot : a.spot = none ∧ a.block < w.heap.size := by
      obtain ⟨x, h1, _, h2⟩ := each0 0 (by omega)
      have h3 := h1 0 _ (List.getElem?_eq_getElem (by omega))
      rw [Nat.zero_mul] at h3
      exact spot_noneS h3
    obtain ⟨g, o, sp⟩ := a
    dsimp only at hspot
    obtain ⟨rfl, hgs⟩ := hspot
    have each : ∀ i, ∃ x : α, i < len → (∀ j u, (en x)[j]? = some u → w.cell? ⟨g, o + i * k + j, none⟩ = some u) ∧ good x := fun i => by
      by_cases hi : i < len
      · obtain ⟨x, h1, h2, _⟩ := each0 i hi
        refine ⟨x, fun _ => ⟨fun j u hu => ?_, h2⟩⟩
        have := h1 j u hu
        rw [Addr.add_lit, Addr.add_lit] at this
        exact this
      · exact ⟨default, fun h => absurd h hi⟩
    obtain ⟨F, hF⟩ := Classical.axiomOfChoice each
    have hz : ((List.range len).map F).length = len := by rw [List.length_map, List.length_range]
    have em : maxLen = 9223372036854775807 := by decide
    refine ⟨(List.range len).map F, .inr ⟨g, o, cap, by rw [hz], by rw [hz]; exact hl, fun j x hx i u hu => ?_⟩, fun x hx => ?_, by rw [hz]; omega, fun _ g' hg' => ?_⟩
    · have hj : j < len := by
        have := (List.getElem?_eq_some_iff.1 hx).1
        omega
      rw [List.getElem?_map, List.getElem?_range hj] at hx
      obtain rfl : F j = x := by simpa using hx
      exact (hF j hj).1 i u hu
    · obtain ⟨j, hj, rfl⟩ := List.mem_map.1 hx
      exact (hF j (List.mem_range.1 hj)).2
    · obtain rfl : g = g' := by simpa [Value.ownBlock] using hg'
      exact hgs
theorem slice_cellsS {t e : TypeId} (hu : Try.prog.underlying t = some (.slice e)) (hv : Value.okWide Try.prog w r b0 t v) : v.cells.toList = [v] := by
  unfold Value.okWide at hv
  rw [hu] at hv
  unfold Cell.okWide at hv
  rw [hu] at hv
  cases v <;> first | rfl | (unfold Cell.ok at hv; rw [hu] at hv; exact absurd hv id)
theorem trod_intS {fuel : Nat} {c : Value} {y : DataW H × List MemPlace} (h : DataW.trod enc Try.prog w base spare held fuel 3 [c] = some y) : ∃ n : Int, c = .int .i64 n ∧ -9223372036854775808 ≤ n ∧ n ≤ 9223372036854775807 := by
  obtain ⟨n, e0, _, wn⟩ := DataW.trod_int Try.underlying3 h
  simp only [List.cons.injEq, and_true] at e0
  have hb := bounds_i64 wn
  exact ⟨n, e0, by omega, by omega⟩
theorem trod_boolS {fuel : Nat} {c : Value} {y : DataW H × List MemPlace} (h : DataW.trod enc Try.prog w base spare held fuel 4 [c] = some y) : ∃ n : Bool, c = .bool n := by
  obtain ⟨n, e0, _⟩ := DataW.trod_bool Try.underlying4 h
  simp only [List.cons.injEq, and_true] at e0
  exact ⟨n, e0⟩
theorem trod_u8S {fuel : Nat} {c : Value} {y : DataW H × List MemPlace} (h : DataW.trod enc Try.prog w base spare held fuel 5 [c] = some y) : ∃ n : Int, c = .int .u8 n ∧ 0 ≤ n ∧ n ≤ 255 := by
  obtain ⟨n, e0, _, wn⟩ := DataW.trod_int Try.underlying5 h
  simp only [List.cons.injEq, and_true] at e0
  have hb := bounds_u8 wn
  exact ⟨n, e0, by omega, by omega⟩
theorem list2S {α : Type} {xs : List α} (h : xs.length = 2) : ∃ a b, xs = [a, b] := by
  match xs, h with
  | [a, b], _ => exact ⟨a, b, rfl⟩
theorem trod_ByS {fuel : Nat} {c0 c1 : Value} {y : DataW H × List MemPlace} (h : DataW.trod enc Try.prog w base spare held fuel 34 [c0, c1] = some y) : ∃ v t : Int, c0 = .int .u8 v ∧ c1 = .int .u8 t ∧ (0 ≤ v ∧ v ≤ 255) ∧ 0 ≤ t ∧ t ≤ 255 := by
  obtain ⟨xs, n, _, _, _, hl, hf⟩ := DataW.trod_struct Try.underlying34 h
  obtain ⟨y0, y1, rfl⟩ := list2S hl
  obtain ⟨v, rfl, hv⟩ := trod_u8S (show DataW.trod enc Try.prog w base spare held n 5 [c0] = some y0 from hf 0 _ rfl)
  obtain ⟨t, rfl, ht⟩ := trod_u8S (show DataW.trod enc Try.prog w base spare held n 5 [c1] = some y1 from hf 1 _ rfl)
  exact ⟨v, t, rfl, rfl, hv, ht⟩
end
end Go.Proofs.Ytkabpnchfhkhgaa
