/-
  How a policy opens.
-/
import Derived.Test.YtcilnbkmaoneaaaDoorRows
import Derived.Test.YtcilnbkmaoneaaaDoorLawKit
import Derived.Test.YtcilnbkmaoneaaaDoorPol
import Derived.WalkKit
import Derived.ProofKit
import Derived.OpenShut
import Derived.Lib.SmallJoins
import Derived.Laws.IdiomArrays
import Derived.LaidMore
import Derived.Lay
import Derived.FnData
import Derived.ChangeMaps5
import Derived.ChangeSlices
import Derived.DataReads
import Derived.Stop.LaidErr
set_option linter.unusedSimpArgs false
set_option linter.unusedVariables false
set_option maxRecDepth 100000
namespace Go.Proofs.YtcilnbkmaoneaaaDoor
open Go.ChangeShapes Go.WideShapes Go.ChangeAt Go.RowKit Go.Joins

theorem list4p {α : Type} {xs : List α} (h : xs.length = 4) : ∃ a b c d, xs = [a, b, c, d] := by
  match xs, h with
  | [a, b, c, d], _ => exact ⟨a, b, c, d, rfl⟩
theorem list3p {α : Type} {xs : List α} (h : xs.length = 3) : ∃ a b c, xs = [a, b, c] := by
  match xs, h with
  | [a, b, c], _ => exact ⟨a, b, c, rfl⟩
theorem array3p {cs : Array Value} (h : cs.size = 3) : ∃ a b c, cs = #[a, b, c] := by
  obtain ⟨cs⟩ := cs
  match cs, h with
  | [a, b, c], _ => exact ⟨a, b, c, rfl⟩
theorem array4p {cs : Array Value} (h : cs.size = 4) : ∃ a b c d, cs = #[a, b, c, d] := by
  obtain ⟨cs⟩ := cs
  match cs, h with
  | [a, b, c, d], _ => exact ⟨a, b, c, d, rfl⟩
section
variable {H : Type} {enc : TypeId × Value → H} {w : World} {base : Nat} {spare : Nat → Bool} {held : Bool} {r : Reach} {b0 : Nat} {v : Value} {d : DataW H} {p : List MemPlace}
theorem trod_sp {fuel : Nat} {cs : List Value} {y : DataW H × List MemPlace} (h : DataW.trod enc Tryd.prog w base spare held fuel 64 cs = some y) : ∃ x : Sp, cs = x.cells ∧ 0 ≤ x.b ∧ x.b ≤ 255 := by
  obtain ⟨xs, m, _, _, hcl, hl, hf⟩ := DataW.trod_struct Tryd.underlying64 h
  obtain ⟨c0, c1, c2, rfl⟩ := list3p (hcl.trans (by kernel_rfl))
  obtain ⟨y0, y1, y2, rfl⟩ := list3p hl
  obtain ⟨f, e0, _⟩ := DataW.trod_int Tryd.underlying3 (show DataW.trod enc Tryd.prog w base spare held m 3 [c0] = some y0 from hf 0 _ rfl)
  obtain ⟨t, e1, _⟩ := DataW.trod_int Tryd.underlying3 (show DataW.trod enc Tryd.prog w base spare held m 3 [c1] = some y1 from hf 1 _ rfl)
  obtain ⟨b, e2, _, wb⟩ := DataW.trod_int Tryd.underlying5 (show DataW.trod enc Tryd.prog w base spare held m 5 [c2] = some y2 from hf 2 _ rfl)
  simp only [List.cons.injEq, and_true] at e0 e1 e2
  subst e0; subst e1; subst e2
  have := bounds_u8 wb
  exact ⟨⟨f, t, b⟩, rfl, this.1, by have := this.2; dsimp only; omega⟩
theorem open_Sp (hv : Value.okWide Tryd.prog w r b0 64 v) (h : DataW.Trod enc Tryd.prog w base spare held 64 v d p) : ∃ x : Sp, v = .agg x.cells.toArray ∧ 0 ≤ x.b ∧ x.b ≤ 255 := by
  obtain ⟨cs, rfl, hsz⟩ := okWide_struct Tryd.underlying64 hv
  obtain ⟨c0, c1, c2, rfl⟩ := array3p (hsz.trans (by kernel_rfl))
  obtain ⟨fuel, hf⟩ := h
  obtain ⟨x, e, h1⟩ := trod_sp (show DataW.trod enc Tryd.prog w base spare held fuel 64 [c0, c1, c2] = some _ from hf)
  exact ⟨x, by rw [← e], h1⟩
theorem trod_sps {fuel : Nat} {c : Value} {y : DataW H × List MemPlace} (hok : Cell.okWide Tryd.prog w r b0 22 c) (hf : DataW.trod enc Tryd.prog w 0 spare held fuel 22 [c] = some y) : ∃ l : List Sp, HoldsS w c l ∧ (∀ x ∈ l, 0 ≤ x.b ∧ x.b ≤ 255) ∧ l.length ≤ 9223372036854775807 := by
  have hc : Tryd.prog.cellsOf 64 = 3 := by kernel_rfl
  rcases DataW.trod_slice Tryd.underlying22 hf with ⟨hcs, _⟩ | ⟨a, len, cap, elems, rest, n, _, hcs, _, _, hl, hm, hlen, hel, _⟩
  · simp only [List.cons.injEq, and_true] at hcs
    subst hcs
    exact ⟨[], .inl ⟨rfl, rfl⟩, fun x hx => by simp at hx, by simp⟩
  · simp only [List.cons.injEq, and_true] at hcs
    subst hcs
    have hspot : a.spot = none := by
      unfold Cell.okWide at hok
      rw [Tryd.underlying22] at hok
      unfold Cell.ok at hok
      rw [Tryd.underlying22] at hok
      exact hok.2.2.2.1
    obtain ⟨g, o, sp⟩ := a
    dsimp only at hspot
    subst hspot
    have each : ∀ i, ∃ x : Sp, i < len → (∀ j u, x.cells[j]? = some u → w.cell? ⟨g, o + i * 3 + j, none⟩ = some u) ∧ 0 ≤ x.b ∧ x.b ≤ 255 := fun i => by
      by_cases hi : i < len
      · have h1 := hel i hi
        rw [hc, List.getElem?_eq_getElem (by omega)] at h1
        cases hcells : w.cells? 0 ((⟨g, o, none⟩ : Addr).add (i * 3)) 3 with
        | none => rw [hcells] at h1; cases h1
        | some cs =>
          rw [hcells] at h1
          obtain ⟨x, hx, hb⟩ := trod_sp (show DataW.trod enc Tryd.prog w 0 spare held n 64 cs = some _ from h1)
          obtain ⟨_, _, hat⟩ := World.cells?_some hcells
          subst hx
          refine ⟨x, fun _ => ⟨fun j u hu => ?_, hb⟩⟩
          have hj : j < 3 := (List.getElem?_eq_some_iff.1 hu).1
          have := hat j hj
          rw [Addr.add_lit, Addr.add_lit, hu] at this
          exact this
      · exact ⟨⟨0, 0, 0⟩, fun h => absurd h hi⟩
    obtain ⟨F, hF⟩ := Classical.axiomOfChoice each
    have hz : ((List.range len).map F).length = len := by rw [List.length_map, List.length_range]
    refine ⟨(List.range len).map F, .inr ⟨g, o, cap, by rw [hz], by rw [hz]; exact hl, fun j x hx i u hu => ?_⟩, fun x hx => ?_, by rw [hz]; have e : maxLen = 9223372036854775807 := by decide
                                                                                                                                    omega⟩
    · have hj : j < len := by
        have := (List.getElem?_eq_some_iff.1 hx).1
        omega
      rw [List.getElem?_map, List.getElem?_range hj] at hx
      obtain rfl : F j = x := by simpa using hx
      exact (hF j hj).1 i u hu
    · obtain ⟨j, hj, rfl⟩ := List.mem_map.1 hx
      exact (hF j (List.mem_range.1 hj)).2
theorem types_P : Tryd.prog.cellTypes Tryd.prog.depth 24 = some [22, 22, 3, 3] := by kernel_rfl
theorem open_P (hv : Value.okWide Tryd.prog w r b0 24 v) (h : DataW.Trod enc Tryd.prog w 0 spare held 24 v d p) : ∃ P : Pol, HoldsP w v P ∧ ((∀ x ∈ P.s, 0 ≤ x.b ∧ x.b ≤ 255) ∧ ∀ x ∈ P.k, 0 ≤ x.b ∧ x.b ≤ 255) ∧ P.s.length ≤ 9223372036854775807 ∧ P.k.length ≤ 9223372036854775807 ∧ (-9223372036854775808 ≤ P.d ∧ P.d ≤ 9223372036854775807) ∧ -9223372036854775808 ≤ P.t ∧ P.t ≤ 9223372036854775807 := by
  have hv2 := hv
  simp only [Value.okWide, Tryd.underlying24] at hv2
  obtain ⟨cs, rfl, hsz, ts, ht, _, hrow⟩ := hv2
  rw [types_P] at ht
  obtain rfl := Option.some.inj ht
  obtain ⟨c0, c1, c2, c3, rfl⟩ := array4p (hsz.trans (by kernel_rfl))
  obtain ⟨fuel, hf0⟩ := h
  obtain ⟨xs, m, _, _, _, hl, hf⟩ := DataW.trod_struct Tryd.underlying24 (show DataW.trod enc Tryd.prog w 0 spare held fuel 24 [c0, c1, c2, c3] = some _ from hf0)
  obtain ⟨y0, y1, y2, y3, rfl⟩ := list4p hl
  obtain ⟨u0, e0, k0⟩ := hrow 0 c0 rfl
  obtain ⟨u1, e1, k1⟩ := hrow 1 c1 rfl
  cases e0
  cases e1
  obtain ⟨l0, hs0, hb0, hn0⟩ := trod_sps k0 (show DataW.trod enc Tryd.prog w 0 spare held m 22 [c0] = some y0 from hf 0 _ rfl)
  obtain ⟨l1, hs1, hb1, hn1⟩ := trod_sps k1 (show DataW.trod enc Tryd.prog w 0 spare held m 22 [c1] = some y1 from hf 1 _ rfl)
  obtain ⟨nd, ed, _, wd⟩ := DataW.trod_int Tryd.underlying3 (show DataW.trod enc Tryd.prog w 0 spare held m 3 [c2] = some y2 from hf 2 _ rfl)
  obtain ⟨nt, et, _, wt⟩ := DataW.trod_int Tryd.underlying3 (show DataW.trod enc Tryd.prog w 0 spare held m 3 [c3] = some y3 from hf 3 _ rfl)
  simp only [List.cons.injEq, and_true] at ed et
  subst ed; subst et
  have bd := bounds_i64 wd
  have bt := bounds_i64 wt
  exact ⟨⟨l0, l1, nd, nt⟩, ⟨_, _, rfl, hs0, hs1⟩, ⟨hb0, hb1⟩, hn0, hn1, by dsimp only; omega, by dsimp only; omega, by dsimp only; omega⟩
end
end Go.Proofs.YtcilnbkmaoneaaaDoor
