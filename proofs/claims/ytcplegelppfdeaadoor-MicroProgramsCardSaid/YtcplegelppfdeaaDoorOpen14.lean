/-
  How the arguments open; a start that lays the program's tables of steps and of cycles; what a row's list of variables says of them.
-/
import Derived.Test.YtcplegelppfdeaaDoorRows
import Derived.Test.YtcplegelppfdeaaDoorLawKit
import Derived.Test.YtcplegelppfdeaaDoorRows14
import Derived.Test.YtcplegelppfdeaaDoorCycp
import Derived.WalkKit
import Derived.ProofKit
import Derived.OpenShut
import Derived.Lib.SmallJoins
import Derived.Laws.IdiomArrays
import Derived.LaidMore
import Derived.Lay
import Derived.FnData
import Derived.ChangeMaps5
import Derived.ChangeSlices
import Derived.DataReads
set_option linter.unusedSimpArgs false
set_option linter.unusedVariables false
namespace Go.Proofs.YtcplegelppfdeaaDoor
open Go.ChangeShapes Go.WideShapes Go.ChangeAt Go.RowKit Go.Joins

theorem Tryd.own : ownKnob Tryd.prog.godebug = none := by kernel_rfl
theorem Tryd.laid : laidOutB Tryd.prog = true := by kernel_rfl

abbrev laidC1 : List (String × DataW Unit) := [("cochineal/micro.rows", Rows.laid_cochineal_micro_rows)]
abbrev laidC2 : List (String × DataW Unit) := [("cochineal/opcode.paces", Rows.laid_cochineal_opcode_paces), ("cochineal/micro.rows", Rows.laid_cochineal_micro_rows)]
theorem case_var1 (os : Os) (args : Array Value) : ((World.laidAll Tryd.prog os laidC1).forCall (fun _ _ => 0) ⟨#[], args, []⟩).Shaped Tryd.prog :=
  World.shaped_of_ZipB (by kernel_rfl) (by kernel_rfl)
theorem case_met1 (os : Os) (args : Array Value) : laidMetH Tryd.prog laidC1 ((World.laidAll Tryd.prog os laidC1).forCall (fun _ _ => 0) ⟨#[], args, []⟩).memory := by
  rw [MakeChecks.laidMetH_plain _ _ _ (by kernel_rfl)]
  exact laidMet_laidAll _ (by kernel_rfl) (by kernel_rfl)
theorem case_var2 (os : Os) (args : Array Value) : ((World.laidAll Tryd.prog os laidC2).forCall (fun _ _ => 0) ⟨#[], args, []⟩).Shaped Tryd.prog :=
  World.shaped_of_ZipB (by kernel_rfl) (by kernel_rfl)
theorem case_met2 (os : Os) (args : Array Value) : laidMetH Tryd.prog laidC2 ((World.laidAll Tryd.prog os laidC2).forCall (fun _ _ => 0) ⟨#[], args, []⟩).memory := by
  rw [MakeChecks.laidMetH_plain _ _ _ (by kernel_rfl)]
  exact laidMet_laidAll _ (by kernel_rfl) (by kernel_rfl)

/-- The datum of a row of the table. -/
def paceD (n : Nat) : DataW Unit := .agg [.agg [.lit (.string (pN n).1), .lit (.int .i64 (pN n).2.1), .lit (.int .i64 (pN n).2.2.1)], .lit (.int .i64 (pN n).2.2.2)]
theorem laid_paces : (Rows.laid_cochineal_opcode_paces : DataW Unit) = .agg ((List.range 34).map paceD) := by kernel_rfl
theorem list2 {α : Type} {xs : List α} (h : xs.length = 2) : ∃ a b, xs = [a, b] := by
  match xs, h with
  | [a, b], _ => exact ⟨a, b, rfl⟩
theorem list3 {α : Type} {xs : List α} (h : xs.length = 3) : ∃ a b c, xs = [a, b, c] := by
  match xs, h with
  | [a, b, c], _ => exact ⟨a, b, c, rfl⟩
theorem list4 {α : Type} {xs : List α} (h : xs.length = 4) : ∃ a b c d, xs = [a, b, c, d] := by
  match xs, h with
  | [a, b, c, d], _ => exact ⟨a, b, c, d, rfl⟩
section
variable {enc : TypeId × Value → Unit} {w : World} {base : Nat} {spare : Nat → Bool} {held : Bool}
theorem trod_i {fuel : Nat} {c : Value} {n : Int} {y : DataW Unit × List MemPlace} (h : DataW.trod enc Tryd.prog w base spare held fuel 3 [c] = some y) (hd : y.1 = .lit (.int .i64 n)) : c = .int .i64 n := by
  obtain ⟨k, e1, e2, _⟩ := DataW.trod_int Tryd.underlying3 h
  rw [e2] at hd
  simp only [DataW.lit.injEq, Lit.int.injEq, true_and] at hd
  rw [hd] at e1
  simpa using e1
theorem trod_s {fuel : Nat} {c : Value} {l : List UInt8} {y : DataW Unit × List MemPlace} (h : DataW.trod enc Tryd.prog w base spare held fuel 9 [c] = some y) (hd : y.1 = .lit (.string l)) : c = .string ⟨l.toArray⟩ := by
  obtain ⟨s, e1, e2, _⟩ := DataW.trod_string Tryd.underlying9 h
  rw [e2] at hd
  simp only [DataW.lit.injEq, Lit.string.injEq] at hd
  rw [← hd]
  simpa using e1
theorem trod_pace {fuel : Nat} {cs : List Value} {n : Nat} {y : DataW Unit × List MemPlace} (h : DataW.trod enc Tryd.prog w base spare held fuel 58 cs = some y) (hd : y.1 = paceD n) : cs = (paceC n).toList := by
  obtain ⟨xs, m, _, ex, hcl, hl, hf⟩ := DataW.trod_struct Tryd.underlying58 h
  obtain ⟨c0, c1, c2, c3, rfl⟩ := list4 (hcl.trans (by kernel_rfl))
  obtain ⟨y0, y1, rfl⟩ := list2 hl
  rw [ex] at hd
  have e := DataW.agg.inj hd
  simp only [List.map_cons, List.map_nil, List.cons.injEq, and_true] at e
  obtain rfl := trod_i (show DataW.trod enc Tryd.prog w base spare held m 3 [c3] = some y1 from hf 1 _ rfl) e.2
  obtain ⟨zs, m2, _, ez, _, hl2, hf2⟩ := DataW.trod_struct Tryd.underlying37 (show DataW.trod enc Tryd.prog w base spare held m 37 [c0, c1, c2] = some y0 from hf 0 _ rfl)
  obtain ⟨z0, z1, z2, rfl⟩ := list3 hl2
  have e1 := e.1
  rw [ez] at e1
  have e2 := DataW.agg.inj e1
  simp only [List.map_cons, List.map_nil, List.cons.injEq, and_true] at e2
  obtain rfl := trod_s (show DataW.trod enc Tryd.prog w base spare held m2 9 [c0] = some z0 from hf2 0 _ rfl) e2.1
  obtain rfl := trod_i (show DataW.trod enc Tryd.prog w base spare held m2 3 [c1] = some z1 from hf2 1 _ rfl) e2.2.1
  obtain rfl := trod_i (show DataW.trod enc Tryd.prog w base spare held m2 3 [c2] = some z2 from hf2 2 _ rfl) e2.2.2
  rfl
end
theorem paceA_row (n : Nat) (hn : n < 34) : ((paceA.toList).drop (n * 4)).take 4 = (paceC n).toList := by
  have h := paceA_at n hn
  have := congrArg Array.toList h
  rw [Array.toList_extract] at this
  simpa [List.extract, Nat.mul_comm] using this
theorem rows_eq : ∀ (k : Nat) (l l' : List Value), l.length = 4 * k → l'.length = 4 * k → (∀ n, n < k → (l.drop (n * 4)).take 4 = (l'.drop (n * 4)).take 4) → l = l'
  | 0, l, l', h, h', _ => by
    rw [List.length_eq_zero_iff.1 (by omega : l.length = 0), List.length_eq_zero_iff.1 (by omega : l'.length = 0)]
  | k + 1, l, l', h, h', e => by
    have e0 := e 0 (by omega)
    simp only [Nat.zero_mul, List.drop_zero] at e0
    have e1 := rows_eq k (l.drop 4) (l'.drop 4) (by simp; omega) (by simp; omega) fun n hn => by
      have := e (n + 1) (by omega)
      rw [List.drop_drop, List.drop_drop, show 4 + n * 4 = (n + 1) * 4 by omega]
      exact this
    rw [← List.take_append_drop 4 l, ← List.take_append_drop 4 l', e0, e1]

theorem list5 {α : Type} {xs : List α} (h : xs.length = 5) : ∃ a b c d e, xs = [a, b, c, d, e] := by
  match xs, h with
  | [a, b, c, d, e], _ => exact ⟨a, b, c, d, e, rfl⟩
theorem spot_none14 {w : World} {a : Addr} {u : Value} (h : w.cell? a = some u) : a.spot = none := by
  unfold World.cell? at h
  split at h
  · split at h
    · cases h
    · rename_i hs
      simpa using hs
  · cases h
/-- The datum of a row of steps. -/
def rowD14 (n : Nat) : DataW Unit := .agg [.agg [.lit (.string (sN n).1), .lit (.int .i64 (sN n).2.1), .lit (.int .i64 (sN n).2.2.1)], .slice ((firL n).map fun x => .lit (.int .i64 x)) [], .lit (.int .i64 (endN n))]
theorem laid_steps : (Rows.laid_cochineal_micro_rows : DataW Unit) = .agg ((List.range 34).map rowD14) := by kernel_rfl
section
variable {enc : TypeId × Value → Unit} {w : World} {base : Nat} {spare : Nat → Bool} {held : Bool}
theorem trod_ints14 {fuel : Nat} {c : Value} {l : List Int} {y : DataW Unit × List MemPlace} (h : DataW.trod enc Tryd.prog w base spare held fuel 22 [c] = some y) (hd : y.1 = .slice (l.map fun x => .lit (.int .i64 x)) []) : HoldsW nE 1 w c l := by
  rcases DataW.trod_slice (e := 3) Tryd.underlying22 h with ⟨hcs, hx⟩ | ⟨a, len, cap, elems, rest, n, _, hcs, hx, _, hl, hm, hlen, hel, _⟩
  · rw [hx] at hd
    cases hd
  · simp only [List.cons.injEq, and_true] at hcs
    subst hcs
    rw [hx] at hd
    have e1 := (DataW.slice.inj hd).1
    have hn : len = l.length := by
      have := congrArg List.length e1
      simp only [List.length_map] at this
      omega
    have hc : Tryd.prog.cellsOf 3 = 1 := by kernel_rfl
    have each : ∀ i x, l[i]? = some x → w.cell? ((a.add (i * 1)).add 0) = some (.int .i64 x) := fun i x hi => by
      have hil : i < l.length := (List.getElem?_eq_some_iff.1 hi).1
      have h1 := hel i (by omega)
      rw [hc, List.getElem?_eq_getElem (by omega)] at h1
      cases hcells : w.cells? base (a.add (i * 1)) 1 with
      | none => rw [hcells] at h1; cases h1
      | some cs =>
        rw [hcells] at h1
        obtain ⟨_, hz, hat⟩ := World.cells?_some hcells
        obtain ⟨c, rfl⟩ := List.length_eq_one_iff.1 hz
        have e2 : elems[i].1 = .lit (.int .i64 x) := by
          have := congrArg (·[i]?) e1
          simp only [List.getElem?_map, hi, Option.map_some] at this
          rw [List.getElem?_eq_getElem (by omega)] at this
          simpa using this
        have := trod_i h1 e2
        subst this
        exact hat 0 (by omega)
    by_cases h0 : len = 0
    · have : l = [] := List.length_eq_zero_iff.1 (by omega)
      subst this
      subst h0
      exact .inl ⟨⟨_, _, rfl⟩, rfl⟩
    have hspot : a.spot = none := by
      have h1 := each 0 _ (List.getElem?_eq_getElem (by omega))
      rw [Nat.zero_mul] at h1
      exact spot_none14 (a := (a.add 0).add 0) h1
    obtain ⟨g, o, sp⟩ := a
    dsimp only at hspot
    subst hspot
    subst hn
    refine .inr ⟨g, o, cap, rfl, hl, fun j x hx i u hu => ?_⟩
    have hi : i = 0 := by have := (List.getElem?_eq_some_iff.1 hu).1; simp [nE] at this; omega
    subst hi
    cases hu
    have := each j x hx
    rw [Addr.add_lit, Addr.add_lit] at this
    exact this
theorem trod_row14 {fuel : Nat} {cs : List Value} {n : Nat} {y : DataW Unit × List MemPlace} (h : DataW.trod enc Tryd.prog w base spare held fuel 44 cs = some y) (hd : y.1 = rowD14 n) : ∃ v, cs = (stepC n v).toList ∧ HoldsW nE 1 w v (firL n) := by
  obtain ⟨xs, m, _, ex, hcl, hl, hf⟩ := DataW.trod_struct Tryd.underlying44 h
  obtain ⟨c0, c1, c2, c3, c4, rfl⟩ := list5 (hcl.trans (by kernel_rfl))
  obtain ⟨y0, y1, y2, rfl⟩ := list3 hl
  rw [ex] at hd
  have e := DataW.agg.inj hd
  simp only [List.map_cons, List.map_nil, List.cons.injEq, and_true] at e
  obtain rfl := trod_i (show DataW.trod enc Tryd.prog w base spare held m 3 [c4] = some y2 from hf 2 _ rfl) e.2.2
  have hv := trod_ints14 (show DataW.trod enc Tryd.prog w base spare held m 22 [c3] = some y1 from hf 1 _ rfl) e.2.1
  obtain ⟨zs, m2, _, ez, _, hl2, hf2⟩ := DataW.trod_struct Tryd.underlying42 (show DataW.trod enc Tryd.prog w base spare held m 42 [c0, c1, c2] = some y0 from hf 0 _ rfl)
  obtain ⟨z0, z1, z2, rfl⟩ := list3 hl2
  have e1 := e.1
  rw [ez] at e1
  have e2 := DataW.agg.inj e1
  simp only [List.map_cons, List.map_nil, List.cons.injEq, and_true] at e2
  obtain rfl := trod_s (show DataW.trod enc Tryd.prog w base spare held m2 9 [c0] = some z0 from hf2 0 _ rfl) e2.1
  obtain rfl := trod_i (show DataW.trod enc Tryd.prog w base spare held m2 3 [c1] = some z1 from hf2 1 _ rfl) e2.2.1
  obtain rfl := trod_i (show DataW.trod enc Tryd.prog w base spare held m2 3 [c2] = some z2 from hf2 2 _ rfl) e2.2.2
  exact ⟨c3, rfl, hv⟩
end
theorem var_cells {W : World} {n : String} {g : Nat} {cs : Array Value} (hg : Tryd.prog.globalNamed n = some g) (hv : W.var? Tryd.prog n = some cs) : ∃ t fr, W.heap[g]? = some (.cells cs t fr) := by
  simp only [World.var?, hg, Option.bind_some] at hv
  split at hv
  · rename_i cs' t' fr' hh
    simp only [Option.some.injEq] at hv
    subst hv
    exact ⟨t', fr', hh⟩
  · cases hv
theorem laid_rowsV {W : World} {ps : List MemPlace} {r : List (String × DataW Unit)} (h : DataW.LaidVars Tryd.prog W (("cochineal/micro.rows", Rows.laid_cochineal_micro_rows) :: r) ps) : LaidRw W := by
  obtain ⟨g, t, cs, fuel, p, q, hg, ht, hv, hd, _, _⟩ := h
  obtain rfl := Option.some.inj ((show Tryd.prog.globalNamed "cochineal/micro.rows" = some 0 by kernel_rfl).symm.trans hg)
  obtain rfl := Option.some.inj ((show (Tryd.prog.globals[0]?).map (·.type) = some 45 by kernel_rfl).symm.trans ht)
  obtain ⟨xs, m, _, ex, hcl, hl, hel⟩ := DataW.trod_array under_rows hd
  have c5 : Tryd.prog.cellsOf 44 = 5 := by kernel_rfl
  have hlen : cs.toList.length = 170 := hcl.trans (by kernel_rfl)
  have e3 : (xs.map (·.1)) = (List.range 34).map rowD14 := by
    have := (Prod.mk.inj ex).1
    rw [laid_steps] at this
    exact (DataW.agg.inj this).symm
  obtain ⟨t', fr', hh⟩ := var_cells hg hv
  refine ⟨cs, t', fr', hh, by rw [Array.size_eq_length_toList]; exact hlen, fun n hn => ?_⟩
  have hE := hel n hn
  rw [c5, List.getElem?_eq_getElem (by omega)] at hE
  have e4 : (xs.map (·.1))[n]? = ((List.range 34).map rowD14)[n]? := by rw [e3]
  rw [List.getElem?_map, List.getElem?_map, List.getElem?_eq_getElem (by omega : n < xs.length), List.getElem?_range hn] at e4
  simp only [Option.map_some, Option.some.injEq] at e4
  obtain ⟨v, hv1, hv2⟩ := trod_row14 hE e4
  refine ⟨v, ?_, hv2⟩
  apply Array.toList_inj.1
  rw [Array.toList_extract, ← hv1]
  simp [List.extract, Nat.mul_comm]
theorem laid_pacesV {W : World} {ps : List MemPlace} {r : List (String × DataW Unit)} (h : DataW.LaidVars Tryd.prog W (("cochineal/opcode.paces", Rows.laid_cochineal_opcode_paces) :: r) ps) : LaidPc W ∧ ∃ q, DataW.LaidVars Tryd.prog W r q := by
  obtain ⟨g, t, cs, fuel, p, q, hg, ht, hv, hd, hrest, _⟩ := h
  refine ⟨?_, q, hrest⟩
  obtain rfl := Option.some.inj ((show Tryd.prog.globalNamed "cochineal/opcode.paces" = some 1 by kernel_rfl).symm.trans hg)
  obtain rfl := Option.some.inj ((show (Tryd.prog.globals[1]?).map (·.type) = some 59 by kernel_rfl).symm.trans ht)
  obtain ⟨xs, m, _, ex, hcl, hl, hel⟩ := DataW.trod_array under_paces hd
  have c4 : Tryd.prog.cellsOf 58 = 4 := by kernel_rfl
  have hlen : cs.toList.length = 136 := hcl.trans (by kernel_rfl)
  have e3 : (xs.map (·.1)) = (List.range 34).map paceD := by
    have := (Prod.mk.inj ex).1
    rw [laid_paces] at this
    exact (DataW.agg.inj this).symm
  have hz : paceA.toList.length = 136 := by rw [← Array.size_eq_length_toList]; exact paceA_size
  have hc : cs.toList = paceA.toList := by
    refine rows_eq 34 _ _ hlen hz fun n hn => ?_
    have hE := hel n hn
    rw [c4, List.getElem?_eq_getElem (by omega)] at hE
    have e4 : (xs.map (·.1))[n]? = ((List.range 34).map paceD)[n]? := by rw [e3]
    rw [List.getElem?_map, List.getElem?_map, List.getElem?_eq_getElem (by omega : n < xs.length), List.getElem?_range hn] at e4
    simp only [Option.map_some, Option.some.injEq] at e4
    rw [trod_pace hE e4, paceA_row n hn]
  have hc' : cs = paceA := Array.toList_inj.1 hc
  subst hc'
  exact var_cells hg hv
theorem laid_of1 {W : World} (h : laidMetH Tryd.prog laidC1 W) : LaidRw W := by
  rw [MakeChecks.laidMetH_plain _ _ _ (by kernel_rfl)] at h
  obtain ⟨ps, h, _⟩ := h
  exact laid_rowsV h
theorem laid_of2 {W : World} (h : laidMetH Tryd.prog laidC2 W) : LaidRw W ∧ LaidPc W := by
  rw [MakeChecks.laidMetH_plain _ _ _ (by kernel_rfl)] at h
  obtain ⟨ps, h, _⟩ := h
  obtain ⟨h1, q, h2⟩ := laid_pacesV h
  exact ⟨laid_rowsV h2, h1⟩

section
variable {H : Type} {enc : TypeId × Value → H} {w : World} {base : Nat} {spare : Nat → Bool} {held : Bool} {r : Reach} {b0 : Nat} {v : Value} {d : DataW H} {p : List MemPlace}
theorem open_u8 (hv : Value.okWide Tryd.prog w r b0 5 v) (h : DataW.Trod enc Tryd.prog w base spare held 5 v d p) : ∃ n : Nat, v = .int .u8 n ∧ n < 256 := by
  obtain ⟨x, rfl, _, _, wx⟩ := open_int Tryd.underlying5 hv h
  have hb := bounds_u8 wx
  refine ⟨x.toNat, ?_, by omega⟩
  rw [Int.toNat_of_nonneg hb.1]
theorem open_i64 (hv : Value.okWide Tryd.prog w r b0 3 v) (h : DataW.Trod enc Tryd.prog w base spare held 3 v d p) : ∃ n : Int, v = .int .i64 n ∧ -9223372036854775808 ≤ n ∧ n ≤ 9223372036854775807 := by
  obtain ⟨n, rfl, _, _, wn⟩ := open_int Tryd.underlying3 hv h
  have hb := bounds_i64 wn
  exact ⟨n, rfl, by omega, by omega⟩
end
end Go.Proofs.YtcplegelppfdeaaDoor
