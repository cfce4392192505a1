/- How a text, an integer, a -/
import Derived.Test.YtjcmblbnbpikfaaGreatDoorRows
import Derived.Test.YtjcmblbnbpikfaaGreatDoorLawKit
import Derived.Test.YtjcmblbnbpikfaaGreatDoorBase
import Derived.WalkKit
import Derived.ProofKit
import Derived.OpenShut
import Derived.Lib.SmallJoins
import Derived.Laws.IdiomArrays
import Derived.LaidMore
import Derived.Lay
import Derived.FnData
import Derived.ChangeMaps5
import Derived.ChangeSlices
import Derived.DataReads
import Derived.Stop.LaidErr
import Derived.Test.YtjcmblbnbpikfaaGreatDoorPol
set_option linter.unusedSimpArgs false
set_option linter.unusedVariables false
set_option maxRecDepth 100000
namespace Go.Proofs.YtjcmblbnbpikfaaGreatDoor
open Go.ChangeShapes Go.WideShapes Go.ChangeAt Go.RowKit Go.Joins

theorem Tryz.own : ownKnob Tryz.prog.godebug = none := by kernel_rfl
theorem Tryz.laid : laidOutB Tryz.prog = true := by kernel_rfl

abbrev laidC5 : List (String × DataW Unit) := [("math/bits.deBruijn32tab", Rows.laid_math_bits_deBruijn32tab), ("math/bits.deBruijn64tab", Rows.laid_math_bits_deBruijn64tab), ("internal/strconv.uint64pow10", Rows.laid_internal_strconv_uint64pow10), ("unicode/utf8.acceptRanges", Rows.laid_unicode_utf8_acceptRanges), ("unicode/utf8.first", Rows.laid_unicode_utf8_first)]
theorem case_var5 (os : Os) (args : Array Value) : ((World.laidAll Tryz.prog os laidC5).forCall (fun _ _ => 0) ⟨#[], args, []⟩).Shaped Tryz.prog :=
 World.shaped_of_ZipB (by kernel_rfl) (by kernel_rfl)
theorem case_met5 (os : Os) (args : Array Value) : laidMetH Tryz.prog laidC5 ((World.laidAll Tryz.prog os laidC5).forCall (fun _ _ => 0) ⟨#[], args, []⟩).memory := by
 rw [MakeChecks.laidMetH_plain _ _ _ (by kernel_rfl)]
 exact laidMet_laidAll _ (by kernel_rfl) (by kernel_rfl)
theorem trod_u {enc : TypeId × Value → Unit} {w : World} {base : Nat} {spare : Nat → Bool} {held : Bool} {fuel : Nat} {c : Value} {n : Int} {y : DataW Unit × List MemPlace} (h : DataW.trod enc Tryz.prog w base spare held fuel 5 [c] = some y) (hd : y.1 = .lit (.int .u8 n)) : c = .int .u8 n := by
 obtain ⟨k, e1, e2, _⟩ := DataW.trod_int Tryz.underlying5 h
 rw [e2] at hd
 simp only [DataW.lit.injEq, Lit.int.injEq, true_and] at hd
 rw [hd] at e1
 simpa using e1
theorem tab_15 : ∃ (l : List (DataW Unit)), (Rows.laid_math_bits_deBruijn64tab : DataW Unit) = .agg l ∧ l[15]? = some (.lit (.int .u8 4)) := ⟨_, rfl, rfl⟩
theorem under_tab : Tryz.prog.underlying 191 = some (.array 64 5) := by kernel_rfl
theorem laid_tz {W : World} {r : List (String × DataW Unit)} (h : laidMet Tryz.prog (("math/bits.deBruijn64tab", Rows.laid_math_bits_deBruijn64tab) :: r) W) : W.cell? ⟨5, 15, none⟩ = some (.int .u8 4) := by
 obtain ⟨ps, ⟨g, t, cs, fuel, p, q, hg, ht, hv, hd, _, _⟩, _, _⟩ := h
 obtain rfl := Option.some.inj ((show Tryz.prog.globalNamed "math/bits.deBruijn64tab" = some 5 by kernel_rfl).symm.trans hg)
 obtain rfl := Option.some.inj ((show (Tryz.prog.globals[5]?).map (·.type) = some 191 by kernel_rfl).symm.trans ht)
 obtain ⟨xs, m, _, ex, hcl, hl, hel⟩ := DataW.trod_array under_tab hd
 have c1 : Tryz.prog.cellsOf 5 = 1 := by kernel_rfl
 have hlen : cs.toList.length = 64 := hcl.trans (by kernel_rfl)
 obtain ⟨l, hlt, h15⟩ := tab_15
 have e3 : (xs.map (·.1)) = l := by
  have := (Prod.mk.inj ex).1
  rw [hlt] at this
  exact (DataW.agg.inj this).symm
 have hE := hel 15 (by omega)
 rw [c1, List.getElem?_eq_getElem (by omega)] at hE
 have e4 : (xs.map (·.1))[15]? = some (.lit (.int .u8 4)) := by rw [e3]; exact h15
 rw [List.getElem?_map, List.getElem?_eq_getElem (by omega : 15 < xs.length)] at e4
 simp only [Option.map_some, Option.some.injEq] at e4
 have hcell : cs.toList[15]? = some (.int .u8 4) := by
  have h15c : (cs.toList.drop (15 * 1)).take 1 = [cs.toList[15]'(by omega)] := by
   rw [List.drop_eq_getElem_cons (by omega)]
   rfl
  rw [h15c] at hE
  rw [List.getElem?_eq_getElem (by omega), trod_u hE e4]
 exact World.var?_cell hg hv 15 |>.trans (by rw [← hcell]; simp)
theorem laid_tz5 {W : World} (h : laidMetH Tryz.prog laidC5 W) : W.cell? ⟨5, 15, none⟩ = some (.int .u8 4) := by
 rw [MakeChecks.laidMetH_plain _ _ _ (by kernel_rfl)] at h
 exact laid_tz (laidMet.tail h)
section
variable {H : Type} {enc : TypeId × Value → H} {w : World} {base : Nat} {spare : Nat → Bool} {held : Bool} {r : Reach} {b0 : Nat} {v : Value} {d : DataW H} {p : List MemPlace}
theorem open_S (hv : Value.okWide Tryz.prog w r b0 9 v) (h : DataW.Trod enc Tryz.prog w base spare held 9 v d p) : ∃ l : List UInt8, v = .string (txB l) ∧ l.length ≤ 9223372036854775807 := by
 obtain ⟨s, rfl, _, hs⟩ := Go.ChangeMaps.open_string Tryz.underlying9 hv h
 refine ⟨s.data.toList, by simp, ?_⟩
 have e : s.data.toList.length = s.size := Array.length_toList
 have hm : maxLen = 9223372036854775807 := by decide
 omega
end
section
variable {H : Type} {enc : TypeId × Value → H} {w : World} {base : Nat} {spare : Nat → Bool} {held : Bool} {r : Reach} {b0 : Nat} {v : Value} {d : DataW H} {p : List MemPlace}
end
end Go.Proofs.YtjcmblbnbpikfaaGreatDoor
