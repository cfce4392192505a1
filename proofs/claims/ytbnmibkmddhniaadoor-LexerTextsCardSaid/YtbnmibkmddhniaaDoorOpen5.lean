/-
  How a slice of tokens opens; starts that lay the five listed tables; what the list says of one.
-/
import Derived.Test.YtbnmibkmddhniaaDoorOpen
import Derived.Test.YtbnmibkmddhniaaDoorAwake6
import Derived.DataReads
import Derived.Stop.LaidErr
set_option linter.unusedSimpArgs false
set_option linter.unusedVariables false
set_option maxRecDepth 100000
namespace Go.Proofs.YtbnmibkmddhniaaDoor
open Go.ChangeShapes Go.WideShapes Go.ChangeAt Go.RowKit Go.Joins

abbrev laidC5 : List (String × DataW Unit) := [("math/bits.deBruijn32tab", Rows.laid_math_bits_deBruijn32tab), ("math/bits.deBruijn64tab", Rows.laid_math_bits_deBruijn64tab), ("internal/strconv.uint64pow10", Rows.laid_internal_strconv_uint64pow10), ("unicode/utf8.acceptRanges", Rows.laid_unicode_utf8_acceptRanges), ("unicode/utf8.first", Rows.laid_unicode_utf8_first)]
theorem case_var5 (os : Os) (args : Array Value) : ((World.laidAll Tryd.prog os laidC5).forCall (fun _ _ => 0) ⟨#[], args, []⟩).Shaped Tryd.prog :=
  World.shaped_of_ZipB (by kernel_rfl) (by kernel_rfl)
theorem case_met5 (os : Os) (args : Array Value) : laidMetH Tryd.prog laidC5 ((World.laidAll Tryd.prog os laidC5).forCall (fun _ _ => 0) ⟨#[], args, []⟩).memory := by
  rw [MakeChecks.laidMetH_plain _ _ _ (by kernel_rfl)]
  exact laidMet_laidAll _ (by kernel_rfl) (by kernel_rfl)
theorem trod_u {enc : TypeId × Value → Unit} {w : World} {base : Nat} {spare : Nat → Bool} {held : Bool} {fuel : Nat} {c : Value} {n : Int} {y : DataW Unit × List MemPlace} (h : DataW.trod enc Tryd.prog w base spare held fuel 5 [c] = some y) (hd : y.1 = .lit (.int .u8 n)) : c = .int .u8 n := by
  obtain ⟨k, e1, e2, _⟩ := DataW.trod_int Tryd.underlying5 h
  rw [e2] at hd
  simp only [DataW.lit.injEq, Lit.int.injEq, true_and] at hd
  rw [hd] at e1
  simpa using e1
theorem tab_15 : ∃ (l : List (DataW Unit)), (Rows.laid_math_bits_deBruijn64tab : DataW Unit) = .agg l ∧ l[15]? = some (.lit (.int .u8 4)) := ⟨_, rfl, rfl⟩
theorem under_tab : Tryd.prog.underlying 122 = some (.array 64 5) := by kernel_rfl
theorem laid_tz {W : World} {r : List (String × DataW Unit)} (h : laidMet Tryd.prog (("math/bits.deBruijn64tab", Rows.laid_math_bits_deBruijn64tab) :: r) W) : W.cell? ⟨5, 15, none⟩ = some (.int .u8 4) := by
  obtain ⟨ps, ⟨g, t, cs, fuel, p, q, hg, ht, hv, hd, _, _⟩, _, _⟩ := h
  obtain rfl := Option.some.inj ((show Tryd.prog.globalNamed "math/bits.deBruijn64tab" = some 5 by kernel_rfl).symm.trans hg)
  obtain rfl := Option.some.inj ((show (Tryd.prog.globals[5]?).map (·.type) = some 122 by kernel_rfl).symm.trans ht)
  obtain ⟨xs, m, _, ex, hcl, hl, hel⟩ := DataW.trod_array under_tab hd
  have c1 : Tryd.prog.cellsOf 5 = 1 := by kernel_rfl
  have hlen : cs.toList.length = 64 := hcl.trans (by kernel_rfl)
  obtain ⟨l, hlt, h15⟩ := tab_15
  have e3 : (xs.map (·.1)) = l := by
    have := (Prod.mk.inj ex).1
    rw [hlt] at this
    exact (DataW.agg.inj this).symm
  have hE := hel 15 (by omega)
  rw [c1, List.getElem?_eq_getElem (by omega)] at hE
  have e4 : (xs.map (·.1))[15]? = some (.lit (.int .u8 4)) := by rw [e3]; exact h15
  rw [List.getElem?_map, List.getElem?_eq_getElem (by omega : 15 < xs.length)] at e4
  simp only [Option.map_some, Option.some.injEq] at e4
  have hcell : cs.toList[15]? = some (.int .u8 4) := by
    have h15c : (cs.toList.drop (15 * 1)).take 1 = [cs.toList[15]'(by omega)] := by
      rw [List.drop_eq_getElem_cons (by omega)]
      rfl
    rw [h15c] at hE
    rw [List.getElem?_eq_getElem (by omega), trod_u hE e4]
  exact World.var?_cell hg hv 15 |>.trans (by rw [← hcell]; simp)
theorem laid_tz5 {W : World} (h : laidMetH Tryd.prog laidC5 W) : W.cell? ⟨5, 15, none⟩ = some (.int .u8 4) := by
  rw [MakeChecks.laidMetH_plain _ _ _ (by kernel_rfl)] at h
  exact laid_tz (laidMet.tail h)
theorem list5 {α : Type} {xs : List α} (h : xs.length = 5) : ∃ a b c d e, xs = [a, b, c, d, e] := by
  match xs, h with
  | [a, b, c, d, e], _ => exact ⟨a, b, c, d, e, rfl⟩
theorem list4 {α : Type} {xs : List α} (h : xs.length = 4) : ∃ a b c d, xs = [a, b, c, d] := by
  match xs, h with
  | [a, b, c, d], _ => exact ⟨a, b, c, d, rfl⟩
theorem list2 {α : Type} {xs : List α} (h : xs.length = 2) : ∃ a b, xs = [a, b] := by
  match xs, h with
  | [a, b], _ => exact ⟨a, b, rfl⟩
section
variable {H : Type} {enc : TypeId × Value → H} {w : World} {base : Nat} {spare : Nat → Bool} {held : Bool} {r : Reach} {b0 : Nat} {v : Value} {d : DataW H} {p : List MemPlace}
theorem open_tok {fuel : Nat} {cs : List Value} {y : DataW H × List MemPlace} (h : DataW.trod enc Tryd.prog w base spare held fuel 37 cs = some y) : ∃ x : Tk, cs = x.cells := by
  obtain ⟨xs, m, _, _, hcl, hl, hf⟩ := DataW.trod_struct Tryd.underlying37 h
  obtain ⟨c0, c1, c2, c3, c4, rfl⟩ := list5 (hcl.trans (by kernel_rfl))
  obtain ⟨y0, y1, y2, y3, rfl⟩ := list4 hl
  obtain ⟨k, e0, _⟩ := DataW.trod_int Tryd.underlying3 (show DataW.trod enc Tryd.prog w base spare held m 3 [c0] = some y0 from hf 0 _ rfl)
  obtain ⟨s, e1, _⟩ := DataW.trod_string Tryd.underlying9 (show DataW.trod enc Tryd.prog w base spare held m 9 [c1] = some y1 from hf 1 _ rfl)
  obtain ⟨n, e2, _⟩ := DataW.trod_int Tryd.underlying3 (show DataW.trod enc Tryd.prog w base spare held m 3 [c2] = some y2 from hf 2 _ rfl)
  obtain ⟨zs, m', _, _, hcl', hl', hf'⟩ := DataW.trod_struct Tryd.underlying25 (show DataW.trod enc Tryd.prog w base spare held m 25 [c3, c4] = some y3 from hf 3 _ rfl)
  obtain ⟨z0, z1, rfl⟩ := list2 hl'
  obtain ⟨li, e3, _⟩ := DataW.trod_int Tryd.underlying3 (show DataW.trod enc Tryd.prog w base spare held m' 3 [c3] = some z0 from hf' 0 _ rfl)
  obtain ⟨co, e4, _⟩ := DataW.trod_int Tryd.underlying3 (show DataW.trod enc Tryd.prog w base spare held m' 3 [c4] = some z1 from hf' 1 _ rfl)
  simp only [List.cons.injEq, and_true] at e0 e1 e2 e3 e4
  subst e0; subst e1; subst e2; subst e3; subst e4
  exact ⟨⟨k, s.data.toList, n, li, co⟩, by simp [Tk.cells, txB]⟩
theorem open_T (hv : Value.okWide Tryd.prog w r b0 23 v) (h : DataW.Trod enc Tryd.prog w 0 (fun _ => true) true 23 v d p) : ∃ l : List Tk, HoldsT w v l := by
  obtain ⟨fuel, hf⟩ := h
  have hc : Tryd.prog.cellsOf 37 = 5 := by kernel_rfl
  have hok : Cell.okWide Tryd.prog w r b0 23 v := by
    unfold Value.okWide at hv
    rw [Tryd.underlying23] at hv
    exact hv
  cases v
  case slice a0 len cap =>
    rcases DataW.trod_slice Tryd.underlying23 hf with ⟨hcs, _⟩ | ⟨a, len', cap', elems, rest, n, _, hcs, _, _, hl, hm, hlen, hel, _⟩
    · simp [Value.cells] at hcs
      obtain ⟨rfl, rfl, rfl⟩ := hcs
      exact ⟨[], .inl ⟨rfl, rfl⟩⟩
    · simp [Value.cells] at hcs
      obtain ⟨rfl, rfl, rfl⟩ := hcs
      have hspot : a.spot = none := by
        unfold Cell.okWide at hok
        rw [Tryd.underlying23] at hok
        unfold Cell.ok at hok
        rw [Tryd.underlying23] at hok
        exact hok.2.2.2.1
      obtain ⟨g, o, sp⟩ := a
      dsimp only at hspot
      subst hspot
      have each : ∀ i, ∃ x : Tk, i < len → w.cell? ⟨g, o + i * 5, none⟩ = some (.int .i64 x.k) ∧ w.cell? ⟨g, o + i * 5 + 1, none⟩ = some (.string (txB x.t)) ∧ w.cell? ⟨g, o + i * 5 + 2, none⟩ = some (.int .i64 x.n) ∧ w.cell? ⟨g, o + i * 5 + 3, none⟩ = some (.int .i64 x.line) ∧ w.cell? ⟨g, o + i * 5 + 4, none⟩ = some (.int .i64 x.col) := fun i => by
        by_cases hi : i < len
        · have h1 := hel i hi
          rw [hc, List.getElem?_eq_getElem (by omega)] at h1
          cases hcells : w.cells? 0 ((⟨g, o, none⟩ : Addr).add (i * 5)) 5 with
          | none => rw [hcells] at h1; cases h1
          | some cs =>
            rw [hcells] at h1
            obtain ⟨x, hx⟩ := open_tok (show DataW.trod enc Tryd.prog w 0 (fun _ => true) true n 37 cs = some _ from h1)
            obtain ⟨_, _, hat⟩ := World.cells?_some hcells
            subst hx
            refine ⟨x, fun _ => ?_⟩
            have f : ∀ j u, j < 5 → x.cells[j]? = some u → w.cell? ⟨g, o + i * 5 + j, none⟩ = some u := fun j u hj hu => by
              have := hat j hj
              rw [Addr.add_lit, Addr.add_lit, hu] at this
              exact this
            exact ⟨f 0 _ (by omega) rfl, f 1 _ (by omega) rfl, f 2 _ (by omega) rfl, f 3 _ (by omega) rfl, f 4 _ (by omega) rfl⟩
        · exact ⟨⟨0, [], 0, 0, 0⟩, fun h => absurd h hi⟩
      obtain ⟨F, hF⟩ := Classical.axiomOfChoice each
      have hz : ((List.range len).map F).length = len := by rw [List.length_map, List.length_range]
      refine ⟨(List.range len).map F, .inr ⟨g, o, cap, by rw [hz], by rw [hz]; exact hl, fun j x hx => ?_⟩⟩
      have hj : j < len := by
        have := (List.getElem?_eq_some_iff.1 hx).1
        omega
      rw [List.getElem?_map, List.getElem?_range hj] at hx
      obtain rfl : F j = x := by simpa using hx
      exact hF j hj
  all_goals
    exfalso
    unfold Cell.okWide at hok
    rw [Tryd.underlying23] at hok
    unfold Cell.ok at hok
    rw [Tryd.underlying23] at hok
    exact hok
end
end Go.Proofs.YtbnmibkmddhniaaDoor
