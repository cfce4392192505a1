/-
  How a byte opens; a start that lays the program's table of cycles; what the row's list of variables says of it.
-/
import Derived.Test.YtnigcmicimdphaaDoorRows
import Derived.Test.YtnigcmicimdphaaDoorLawKit
import Derived.Test.YtnigcmicimdphaaDoorB8
import Derived.Test.YtnigcmicimdphaaDoorCycp
import Derived.WalkKit
import Derived.ProofKit
import Derived.OpenShut
import Derived.Lib.SmallJoins
import Derived.Laws.IdiomArrays
import Derived.LaidMore
import Derived.Lay
import Derived.FnData
import Derived.ChangeMaps5
set_option linter.unusedSimpArgs false
set_option linter.unusedVariables false
namespace Go.Proofs.YtnigcmicimdphaaDoor
open Go.ChangeShapes Go.WideShapes Go.ChangeAt Go.RowKit Go.Joins

theorem Tryd.own : ownKnob Tryd.prog.godebug = none := by kernel_rfl
theorem Tryd.laid : laidOutB Tryd.prog = true := by kernel_rfl

abbrev laidC : List (String × DataW Unit) := [("cochineal/opcode.paces", Rows.laid_cochineal_opcode_paces)]
theorem case_var (os : Os) (args : Array Value) : ((World.laidAll Tryd.prog os laidC).forCall (fun _ _ => 0) ⟨#[], args, []⟩).Shaped Tryd.prog :=
  World.shaped_of_ZipB (by kernel_rfl) (by kernel_rfl)
theorem case_met (os : Os) (args : Array Value) : laidMetH Tryd.prog laidC ((World.laidAll Tryd.prog os laidC).forCall (fun _ _ => 0) ⟨#[], args, []⟩).memory := by
  rw [MakeChecks.laidMetH_plain _ _ _ (by kernel_rfl)]
  exact laidMet_laidAll _ (by kernel_rfl) (by kernel_rfl)

/-- The datum of a row of the table. -/
def paceD (n : Nat) : DataW Unit := .agg [.agg [.lit (.string (pN n).1), .lit (.int .i64 (pN n).2.1), .lit (.int .i64 (pN n).2.2.1)], .lit (.int .i64 (pN n).2.2.2)]
theorem laid_is : (Rows.laid_cochineal_opcode_paces : DataW Unit) = .agg ((List.range 34).map paceD) := by kernel_rfl
theorem list2 {α : Type} {xs : List α} (h : xs.length = 2) : ∃ a b, xs = [a, b] := by
  match xs, h with
  | [a, b], _ => exact ⟨a, b, rfl⟩
theorem list3 {α : Type} {xs : List α} (h : xs.length = 3) : ∃ a b c, xs = [a, b, c] := by
  match xs, h with
  | [a, b, c], _ => exact ⟨a, b, c, rfl⟩
theorem list4 {α : Type} {xs : List α} (h : xs.length = 4) : ∃ a b c d, xs = [a, b, c, d] := by
  match xs, h with
  | [a, b, c, d], _ => exact ⟨a, b, c, d, rfl⟩
section
variable {enc : TypeId × Value → Unit} {w : World} {base : Nat} {spare : Nat → Bool} {held : Bool}
theorem trod_i {fuel : Nat} {c : Value} {n : Int} {y : DataW Unit × List MemPlace} (h : DataW.trod enc Tryd.prog w base spare held fuel 3 [c] = some y) (hd : y.1 = .lit (.int .i64 n)) : c = .int .i64 n := by
  obtain ⟨k, e1, e2, _⟩ := DataW.trod_int Tryd.underlying3 h
  rw [e2] at hd
  simp only [DataW.lit.injEq, Lit.int.injEq, true_and] at hd
  rw [hd] at e1
  simpa using e1
theorem trod_s {fuel : Nat} {c : Value} {l : List UInt8} {y : DataW Unit × List MemPlace} (h : DataW.trod enc Tryd.prog w base spare held fuel 9 [c] = some y) (hd : y.1 = .lit (.string l)) : c = .string ⟨l.toArray⟩ := by
  obtain ⟨s, e1, e2, _⟩ := DataW.trod_string Tryd.underlying9 h
  rw [e2] at hd
  simp only [DataW.lit.injEq, Lit.string.injEq] at hd
  rw [← hd]
  simpa using e1
theorem trod_pace {fuel : Nat} {cs : List Value} {n : Nat} {y : DataW Unit × List MemPlace} (h : DataW.trod enc Tryd.prog w base spare held fuel 43 cs = some y) (hd : y.1 = paceD n) : cs = (paceC n).toList := by
  obtain ⟨xs, m, _, ex, hcl, hl, hf⟩ := DataW.trod_struct Tryd.underlying43 h
  obtain ⟨c0, c1, c2, c3, rfl⟩ := list4 (hcl.trans (by kernel_rfl))
  obtain ⟨y0, y1, rfl⟩ := list2 hl
  rw [ex] at hd
  have e := DataW.agg.inj hd
  simp only [List.map_cons, List.map_nil, List.cons.injEq, and_true] at e
  obtain rfl := trod_i (show DataW.trod enc Tryd.prog w base spare held m 3 [c3] = some y1 from hf 1 _ rfl) e.2
  obtain ⟨zs, m2, _, ez, _, hl2, hf2⟩ := DataW.trod_struct Tryd.underlying23 (show DataW.trod enc Tryd.prog w base spare held m 23 [c0, c1, c2] = some y0 from hf 0 _ rfl)
  obtain ⟨z0, z1, z2, rfl⟩ := list3 hl2
  have e1 := e.1
  rw [ez] at e1
  have e2 := DataW.agg.inj e1
  simp only [List.map_cons, List.map_nil, List.cons.injEq, and_true] at e2
  obtain rfl := trod_s (show DataW.trod enc Tryd.prog w base spare held m2 9 [c0] = some z0 from hf2 0 _ rfl) e2.1
  obtain rfl := trod_i (show DataW.trod enc Tryd.prog w base spare held m2 3 [c1] = some z1 from hf2 1 _ rfl) e2.2.1
  obtain rfl := trod_i (show DataW.trod enc Tryd.prog w base spare held m2 3 [c2] = some z2 from hf2 2 _ rfl) e2.2.2
  rfl
end
theorem paceA_row (n : Nat) (hn : n < 34) : ((paceA.toList).drop (n * 4)).take 4 = (paceC n).toList := by
  have h := paceA_at n hn
  have := congrArg Array.toList h
  rw [Array.toList_extract] at this
  simpa [List.extract, Nat.mul_comm] using this
theorem rows_eq : ∀ (k : Nat) (l l' : List Value), l.length = 4 * k → l'.length = 4 * k → (∀ n, n < k → (l.drop (n * 4)).take 4 = (l'.drop (n * 4)).take 4) → l = l'
  | 0, l, l', h, h', _ => by
    rw [List.length_eq_zero_iff.1 (by omega : l.length = 0), List.length_eq_zero_iff.1 (by omega : l'.length = 0)]
  | k + 1, l, l', h, h', e => by
    have e0 := e 0 (by omega)
    simp only [Nat.zero_mul, List.drop_zero] at e0
    have e1 := rows_eq k (l.drop 4) (l'.drop 4) (by simp; omega) (by simp; omega) fun n hn => by
      have := e (n + 1) (by omega)
      rw [List.drop_drop, List.drop_drop, show 4 + n * 4 = (n + 1) * 4 by omega]
      exact this
    rw [← List.take_append_drop 4 l, ← List.take_append_drop 4 l', e0, e1]
theorem laid_of {W : World} (h : laidMetH Tryd.prog laidC W) : Laid W := by
  rw [MakeChecks.laidMetH_plain _ _ _ (by kernel_rfl)] at h
  obtain ⟨ps, ⟨g, t, cs, fuel, p, q, hg, ht, hv, hd, _, _⟩, _, _⟩ := h
  obtain rfl := Option.some.inj ((show Tryd.prog.globalNamed "cochineal/opcode.paces" = some 0 by kernel_rfl).symm.trans hg)
  obtain rfl := Option.some.inj ((show (Tryd.prog.globals[0]?).map (·.type) = some 44 by kernel_rfl).symm.trans ht)
  obtain ⟨xs, m, _, ex, hcl, hl, hel⟩ := DataW.trod_array under_paces hd
  have c4 : Tryd.prog.cellsOf 43 = 4 := by kernel_rfl
  have hlen : cs.toList.length = 136 := hcl.trans (by kernel_rfl)
  have e3 : (xs.map (·.1)) = (List.range 34).map paceD := by
    have := (Prod.mk.inj ex).1
    rw [laid_is] at this
    exact (DataW.agg.inj this).symm
  have hz : paceA.toList.length = 136 := by rw [← Array.size_eq_length_toList]; exact paceA_size
  have hc : cs.toList = paceA.toList := by
    refine rows_eq 34 _ _ hlen hz fun n hn => ?_
    have hE := hel n hn
    rw [c4, List.getElem?_eq_getElem (by omega)] at hE
    have e4 : (xs.map (·.1))[n]? = ((List.range 34).map paceD)[n]? := by rw [e3]
    rw [List.getElem?_map, List.getElem?_map, List.getElem?_eq_getElem (by omega : n < xs.length), List.getElem?_range hn] at e4
    simp only [Option.map_some, Option.some.injEq] at e4
    rw [trod_pace hE e4, paceA_row n hn]
  have hc' : cs = paceA := Array.toList_inj.1 hc
  subst hc'
  simp only [World.var?, hg, Option.bind_some] at hv
  split at hv
  · rename_i cs' t' fr' hh
    simp only [Option.some.injEq] at hv
    subst hv
    exact ⟨t', fr', hh⟩
  · cases hv

section
variable {H : Type} {enc : TypeId × Value → H} {w : World} {base : Nat} {spare : Nat → Bool} {held : Bool} {r : Reach} {b0 : Nat} {v : Value} {d : DataW H} {p : List MemPlace}
theorem open_u8 (hv : Value.okWide Tryd.prog w r b0 5 v) (h : DataW.Trod enc Tryd.prog w base spare held 5 v d p) : ∃ n : Nat, v = .int .u8 n ∧ n < 256 := by
  obtain ⟨x, rfl, _, _, wx⟩ := open_int Tryd.underlying5 hv h
  have hb := bounds_u8 wx
  refine ⟨x.toNat, ?_, by omega⟩
  rw [Int.toNat_of_nonneg hb.1]
end
end Go.Proofs.YtnigcmicimdphaaDoor
