/-
  The program's bus keeps the contracts on which the laws rest.
  How the arguments open; a start that lays the program's table of areas; what the row's list of variables says of it.
-/
import Derived.Test.YtcnejgilmciljaaGreatDoorSamep8
import Derived.Test.YtcnejgilmciljaaGreatDoorDevs13
import Derived.Test.YtcnejgilmciljaaGreatDoorReadb13
import Derived.Test.YtcnejgilmciljaaGreatDoorWriteb13
import Derived.Test.YtcnejgilmciljaaGreatDoorRows
import Derived.Test.YtcnejgilmciljaaGreatDoorPlan
import Derived.Test.YtcnejgilmciljaaGreatDoorProgw10
import Derived.Test.YtcnejgilmciljaaGreatDoorEqArr
import Derived.WalkKit
import Derived.ProofKit
import Derived.OpenShut
import Derived.Lib.SmallJoins
import Derived.Laws.IdiomArrays
import Derived.LaidMore
import Derived.Lay
import Derived.FnData
import Derived.ChangeMaps5
import Derived.ChangeSlices
import Derived.DataReads
import Derived.Stop.LaidErr
set_option linter.unusedSimpArgs false
set_option linter.unusedVariables false
namespace Go.Proofs.YtcnejgilmciljaaGreatDoor
open Go.RowKit Go.PlainAid

theorem theBusK : BusK BO where
  frm := BO.frm
  new mb mbb pb wb M T S W F G w h1 h2 h3 h4 h5 h6 := bnew_c mb mbb pb wb M T S W F G w h1 h2 h3 h4 h5 h6
  newBad p q r T w h := bnew_bad p q r T w h
  newNil p q r T w h := bnew_nil p q r T w h
  read bb B F G a w ha hB hL h := busr_c bb B F G a w ha hB hL h
  write bb B F G a v t w ha hB hv ht hL h := busw_c bb B F G a v t w ha hB hv ht hL h
  cycles := by rintro bb B F G w ⟨mb, mbb, pb, wb, F0, G0, h, rfl, rfl⟩; exact bcycles_c h.v
  irq := by rintro bb B F G w ⟨mb, mbb, pb, wb, F0, G0, h, rfl, rfl⟩; exact birq_c h.v
  timer := by rintro bb B F G w ⟨mb, mbb, pb, wb, F0, G0, h, rfl, rfl⟩; exact btimer_c h.v
  memory := by rintro bb B F G w ⟨mb, mbb, pb, wb, F0, G0, h, rfl, rfl⟩; exact bmemory_c h.v
  ports := by rintro bb B F G w hS ⟨mb, mbb, pb, wb, F0, G0, h, rfl, rfl⟩; exact bports_c h.v hS
  wheel := by rintro bb B F G w ⟨mb, mbb, pb, wb, F0, G0, h, rfl, rfl⟩; exact bwheel_c h.v
theorem theBus : BusL BO where
  k := theBusK
  clone := by rintro bb B F G w hS ⟨mb, mbb, pb, wb, F0, G0, h, rfl, rfl⟩; exact bclone_c h.v hS
  low := by rintro bb cb B C F G F2 G2 w hQ hB hC ⟨mb, mbb, pb, wb, F0, G0, h, rfl, rfl⟩ ⟨nb, nbb, qb, xb, F1, G1, h', rfl, rfl⟩; exact blow_c hQ hB hC h.v h'.v
  lowNN := blow_nn
  lowNP := blow_np
  readN := bread_nil
  writeN := bwrite_nil
  irqN := birq_nil
  cyclesN := bcycles_nil
  memoryN := bmemory_nil
  timerN := btimer_nil
  portsN := bports_nil
  wheelN := bwheel_nil
  cloneN := bclone_nil
end Go.Proofs.YtcnejgilmciljaaGreatDoor
set_option linter.unusedSimpArgs false
set_option linter.unusedVariables false
set_option maxRecDepth 100000
namespace Go.Proofs.YtcnejgilmciljaaGreatDoor
open Go.ChangeShapes Go.WideShapes Go.ChangeAt Go.RowKit Go.Joins

theorem Tryz.own : ownKnob Tryz.prog.godebug = none := by kernel_rfl
theorem Tryz.laid : laidOutB Tryz.prog = true := by kernel_rfl
abbrev laidC : List (String × DataW Unit) := [("cochineal/memory.areas", Rows.laid_cochineal_memory_areas)]
theorem case_var (os : Os) (args : Array Value) : ((World.laidAll Tryz.prog os laidC).forCall (fun _ _ => 0) ⟨#[], args, []⟩).Shaped Tryz.prog :=
  World.shaped_of_ZipB (by kernel_rfl) (by kernel_rfl)
theorem case_met (os : Os) (args : Array Value) : laidMetH Tryz.prog laidC ((World.laidAll Tryz.prog os laidC).forCall (fun _ _ => 0) ⟨#[], args, []⟩).memory := by
  rw [MakeChecks.laidMetH_plain _ _ _ (by kernel_rfl)]
  exact laidMet_laidAll _ (by kernel_rfl) (by kernel_rfl)
theorem list2 {α : Type} {xs : List α} (h : xs.length = 2) : ∃ a b, xs = [a, b] := by
  match xs, h with
  | [a, b], _ => exact ⟨a, b, rfl⟩
theorem list3 {α : Type} {xs : List α} (h : xs.length = 3) : ∃ a b c, xs = [a, b, c] := by
  match xs, h with
  | [a, b, c], _ => exact ⟨a, b, c, rfl⟩
theorem list5 {α : Type} {xs : List α} (h : xs.length = 5) : ∃ a b c d e, xs = [a, b, c, d, e] := by
  match xs, h with
  | [a, b, c, d, e], _ => exact ⟨a, b, c, d, e, rfl⟩
theorem list6 {α : Type} {xs : List α} (h : xs.length = 6) : ∃ a b c d e f, xs = [a, b, c, d, e, f] := by
  match xs, h with
  | [a, b, c, d, e, f], _ => exact ⟨a, b, c, d, e, f, rfl⟩
theorem array2 {cs : Array Value} (h : cs.size = 2) : ∃ a b, cs = #[a, b] := by
  obtain ⟨cs⟩ := cs
  match cs, h with
  | [a, b], _ => exact ⟨a, b, rfl⟩
/-! The table. -/
def areaD (x : Aq) : DataW Unit := .agg [.lit (.int .i64 x.k), .lit (.int .i64 x.lo), .lit (.int .i64 x.hi)]
theorem laid_is : (Rows.laid_cochineal_memory_areas : DataW Unit) = .agg (areaL.map areaD) := by kernel_rfl
theorem under_areas : Tryz.prog.underlying 152 = some (.array 4 151) := by kernel_rfl
section
variable {enc : TypeId × Value → Unit} {w : World} {base : Nat} {spare : Nat → Bool} {held : Bool}
theorem trod_i {fuel : Nat} {c : Value} {n : Int} {y : DataW Unit × List MemPlace} (h : DataW.trod enc Tryz.prog w base spare held fuel 3 [c] = some y) (hd : y.1 = .lit (.int .i64 n)) : c = .int .i64 n := by
  obtain ⟨k, e1, e2, _⟩ := DataW.trod_int Tryz.underlying3 h
  rw [e2] at hd
  simp only [DataW.lit.injEq, Lit.int.injEq, true_and] at hd
  rw [hd] at e1
  simpa using e1
theorem trod_area {fuel : Nat} {cs : List Value} {x : Aq} {y : DataW Unit × List MemPlace} (h : DataW.trod enc Tryz.prog w base spare held fuel 151 cs = some y) (hd : y.1 = areaD x) : cs = [.int .i64 x.k, .int .i64 x.lo, .int .i64 x.hi] := by
  obtain ⟨xs, m, _, ex, hcl, hl, hf⟩ := DataW.trod_struct Tryz.underlying151 h
  obtain ⟨c0, c1, c2, rfl⟩ := list3 (hcl.trans (by kernel_rfl))
  obtain ⟨y0, y1, y2, rfl⟩ := list3 hl
  rw [ex] at hd
  have e := DataW.agg.inj hd
  simp only [List.map_cons, List.map_nil, List.cons.injEq, and_true] at e
  obtain rfl := trod_i (show DataW.trod enc Tryz.prog w base spare held m 3 [c0] = some y0 from hf 0 _ rfl) e.1
  obtain rfl := trod_i (show DataW.trod enc Tryz.prog w base spare held m 3 [c1] = some y1 from hf 1 _ rfl) e.2.1
  obtain rfl := trod_i (show DataW.trod enc Tryz.prog w base spare held m 3 [c2] = some y2 from hf 2 _ rfl) e.2.2
  rfl
end
theorem laid_of {W : World} (h : laidMetH Tryz.prog laidC W) : Laid W := by
  rw [MakeChecks.laidMetH_plain _ _ _ (by kernel_rfl)] at h
  obtain ⟨ps, ⟨g, t, cs, fuel, p, q, hg, ht, hv, hd, _, _⟩, _, _⟩ := h
  obtain rfl := Option.some.inj ((show Tryz.prog.globalNamed "cochineal/memory.areas" = some 0 by kernel_rfl).symm.trans hg)
  obtain rfl := Option.some.inj ((show (Tryz.prog.globals[0]?).map (·.type) = some 152 by kernel_rfl).symm.trans ht)
  obtain ⟨xs, m, _, ex, hcl, hl, hel⟩ := DataW.trod_array under_areas hd
  have c3 : Tryz.prog.cellsOf 151 = 3 := by kernel_rfl
  have hlen : cs.toList.length = 12 := hcl.trans (by kernel_rfl)
  have e3 : xs.map (·.1) = areaL.map areaD := by
    have := (Prod.mk.inj ex).1
    rw [laid_is] at this
    exact (DataW.agg.inj this).symm
  have each : ∀ n x, areaL[n]? = some x → (cs.toList.drop (n * 3)).take 3 = [.int .i64 x.k, .int .i64 x.lo, .int .i64 x.hi] := fun n x hx => by
    have hn : n < 4 := (List.getElem?_eq_some_iff.1 hx).1
    have hE := hel n hn
    rw [c3, List.getElem?_eq_getElem (by omega)] at hE
    have e4 : (xs.map (·.1))[n]? = (areaL.map areaD)[n]? := by rw [e3]
    rw [List.getElem?_map, List.getElem?_map, List.getElem?_eq_getElem (by omega : n < xs.length), hx] at e4
    simp only [Option.map_some, Option.some.injEq] at e4
    exact trod_area hE e4
  have hc : cs.toList = areaA.toList := by
    have h0 := each 0 _ rfl
    have h1 := each 1 _ rfl
    have h2 := each 2 _ rfl
    have h3 := each 3 _ rfl
    have split : ∀ l : List Value, l.length = 12 → l = (l.drop 0).take 3 ++ ((l.drop 3).take 3 ++ ((l.drop 6).take 3 ++ (l.drop 9).take 3)) := fun l hl => by
      have a1 : (l.drop 9).take 3 = l.drop 9 := List.take_of_length_le (by rw [List.length_drop]; omega)
      have a2 := List.take_append_drop 3 (l.drop 6)
      have a3 := List.take_append_drop 3 (l.drop 3)
      have a4 := List.take_append_drop 3 l
      rw [List.drop_drop] at a2 a3
      rw [List.drop_zero, a1, a2, a3, a4]
    rw [split cs.toList hlen, show (cs.toList.drop 0).take 3 = _ from h0, show (cs.toList.drop 3).take 3 = _ from h1, show (cs.toList.drop 6).take 3 = _ from h2, show (cs.toList.drop 9).take 3 = _ from h3]
    rfl
  have hc' : cs = areaA := Array.toList_inj.1 hc
  subst hc'
  simp only [World.var?, hg, Option.bind_some] at hv
  split at hv
  · rename_i cs' t' fr' hh
    simp only [Option.some.injEq] at hv
    subst hv
    exact ⟨t', fr', hh⟩
  · cases hv
/-! The arguments. -/
section
variable {H : Type} {enc : TypeId × Value → H} {w : World} {base : Nat} {spare : Nat → Bool} {held : Bool} {r : Reach} {b0 : Nat} {v : Value} {d : DataW H} {p : List MemPlace}
theorem open_i64 (hv : Value.okWide Tryz.prog w r b0 3 v) (h : DataW.Trod enc Tryz.prog w base spare held 3 v d p) : ∃ n : Int, v = .int .i64 n ∧ -9223372036854775808 ≤ n ∧ n ≤ 9223372036854775807 := by
  obtain ⟨n, rfl, _, _, wn⟩ := open_int Tryz.underlying3 hv h
  have hb := bounds_i64 wn
  exact ⟨n, rfl, by omega, by omega⟩
theorem open_u8 (hv : Value.okWide Tryz.prog w r b0 5 v) (h : DataW.Trod enc Tryz.prog w base spare held 5 v d p) : ∃ n : Int, v = .int .u8 n ∧ 0 ≤ n ∧ n ≤ 255 := by
  obtain ⟨n, rfl, _, _, wn⟩ := open_int Tryz.underlying5 hv h
  have hb := bounds_u8 wn
  exact ⟨n, rfl, by omega, by omega⟩
theorem trod_byte {fuel : Nat} {cs : List Value} {y : DataW H × List MemPlace} (h : DataW.trod enc Tryz.prog w base spare held fuel 5 cs = some y) : ∃ x : Int, cs = bE x ∧ 0 ≤ x ∧ x ≤ 255 := by
  obtain ⟨x, e0, _, wx⟩ := DataW.trod_int Tryz.underlying5 h
  have hb := bounds_u8 wx
  exact ⟨x, e0, by omega, by omega⟩
theorem open_By (hv : Value.okWide Tryz.prog w r b0 49 v) (h : DataW.Trod enc Tryz.prog w base spare held 49 v d p) : ∃ a t : Int, v = .agg #[.int .u8 a, .int .u8 t] ∧ (0 ≤ a ∧ a ≤ 255) ∧ 0 ≤ t ∧ t ≤ 255 := by
  obtain ⟨cs, rfl, hsz⟩ := okWide_struct Tryz.underlying49 hv
  obtain ⟨c0, c1, rfl⟩ := array2 (hsz.trans (by kernel_rfl))
  obtain ⟨fuel, hf⟩ := h
  obtain ⟨xs, m, _, _, _, hl, hf⟩ := DataW.trod_struct Tryz.underlying49 (show DataW.trod enc Tryz.prog w base spare held fuel 49 [c0, c1] = some _ from hf)
  obtain ⟨y0, y1, rfl⟩ := list2 hl
  obtain ⟨a, e0, ha⟩ := trod_byte (show DataW.trod enc Tryz.prog w base spare held m 5 [c0] = some y0 from hf 0 _ rfl)
  obtain ⟨t, e1, ht⟩ := trod_byte (show DataW.trod enc Tryz.prog w base spare held m 5 [c1] = some y1 from hf 1 _ rfl)
  unfold bE at e0 e1
  simp only [List.cons.injEq, and_true] at e0 e1
  subst e0; subst e1
  exact ⟨a, t, rfl, ha, ht⟩
theorem spot_none {w : World} {a : Addr} {u : Value} (h : w.cell? a = some u) : a.spot = none ∧ a.block < w.heap.size := by
  unfold World.cell? at h
  split at h
  · rename_i c e f hh
    split at h
    · cases h
    · rename_i hs
      exact ⟨by simpa using hs, (Array.getElem?_eq_some_iff.1 hh).1⟩
  · cases h
/-- A slice opens: its elements by their cells. -/
theorem open_slice {α : Type} [Inhabited α] (en : α → List Value) (k : Nat) (good : α → Prop) {t e : TypeId} (hu : Tryz.prog.underlying t = some (.slice e)) (hc : Tryz.prog.cellsOf e = k) (hk : 0 < k) {spare : Nat → Bool} {fuel : Nat} {c : Value} {y : DataW H × List MemPlace}
    (helem : ∀ n cs y, DataW.trod enc Tryz.prog w 0 spare held n e cs = some y → ∃ x : α, cs = en x ∧ good x)
    (hf : DataW.trod enc Tryz.prog w 0 spare held fuel t [c] = some y) :
    ∃ l : List α, HoldsW en k w c l ∧ (∀ x ∈ l, good x) ∧ l.length ≤ 9223372036854775807 ∧ (0 < l.length → ∀ g, c.ownBlock = some g → g < w.heap.size) := by
  rcases DataW.trod_slice hu hf with ⟨hcs, _⟩ | ⟨a, len, cap, elems, rest, n, _, hcs, _, _, hl, hm, hlen, hel, _⟩
  · simp only [List.cons.injEq, and_true] at hcs
    subst hcs
    exact ⟨[], .inl ⟨⟨_, _, rfl⟩, rfl⟩, fun x hx => by simp at hx, by simp, by simp⟩
  · simp only [List.cons.injEq, and_true] at hcs
    subst hcs
    by_cases h0 : len = 0
    · subst h0
      exact ⟨[], .inl ⟨⟨_, _, rfl⟩, rfl⟩, fun x hx => by simp at hx, by simp, by simp⟩
    have each0 : ∀ i, i < len → ∃ x : α, (∀ j u, (en x)[j]? = some u → w.cell? ((a.add (i * k)).add j) = some u) ∧ good x ∧ (en x).length = k := fun i hi => by
      have h1 := hel i hi
      rw [hc, List.getElem?_eq_getElem (by omega)] at h1
      cases hcells : w.cells? 0 (a.add (i * k)) k with
      | none => rw [hcells] at h1; cases h1
      | some cs =>
        rw [hcells] at h1
        obtain ⟨x, hx, hb⟩ := helem n cs _ h1
        obtain ⟨_, hn, hat⟩ := World.cells?_some hcells
        subst hx
        refine ⟨x, fun j u hu => ?_, hb, hn⟩
        have hj : j < k := by rw [← hn]; exact (List.getElem?_eq_some_iff.1 hu).1
        exact (hat j hj).trans hu
    have hspot : a.spot = none ∧ a.block < w.heap.size := by
      obtain ⟨x, h1, _, h2⟩ := each0 0 (by omega)
      have h3 := h1 0 _ (List.getElem?_eq_getElem (by omega))
      rw [Nat.zero_mul] at h3
      exact spot_none h3
    obtain ⟨g, o, sp⟩ := a
    dsimp only at hspot
    obtain ⟨rfl, hgs⟩ := hspot
    have each : ∀ i, ∃ x : α, i < len → (∀ j u, (en x)[j]? = some u → w.cell? ⟨g, o + i * k + j, none⟩ = some u) ∧ good x := fun i => by
      by_cases hi : i < len
      · obtain ⟨x, h1, h2, _⟩ := each0 i hi
        refine ⟨x, fun _ => ⟨fun j u hu => ?_, h2⟩⟩
        have := h1 j u hu
        rw [Addr.add_lit, Addr.add_lit] at this
        exact this
      · exact ⟨default, fun h => absurd h hi⟩
    obtain ⟨F, hF⟩ := Classical.axiomOfChoice each
    have hz : ((List.range len).map F).length = len := by rw [List.length_map, List.length_range]
    have em : maxLen = 9223372036854775807 := by decide
    refine ⟨(List.range len).map F, .inr ⟨g, o, cap, by rw [hz], by rw [hz]; exact hl, fun j x hx i u hu => ?_⟩, fun x hx => ?_, by rw [hz]; omega, fun _ g' hg' => ?_⟩
    · have hj : j < len := by
        have := (List.getElem?_eq_some_iff.1 hx).1
        omega
      rw [List.getElem?_map, List.getElem?_range hj] at hx
      obtain rfl : F j = x := by simpa using hx
      exact (hF j hj).1 i u hu
    · obtain ⟨j, hj, rfl⟩ := List.mem_map.1 hx
      exact (hF j (List.mem_range.1 hj)).2
    · obtain rfl : g = g' := by simpa [Value.ownBlock] using hg'
      exact hgs
theorem under_bytes : Tryz.prog.underlying 25 = some (.slice 5) := by kernel_rfl
theorem trod_bytes {fuel : Nat} {c : Value} {spare : Nat → Bool} {y : DataW H × List MemPlace} (hf : DataW.trod enc Tryz.prog w 0 spare held fuel 25 [c] = some y) :
    ∃ l : List Int, HoldsW bE 1 w c l ∧ (∀ x ∈ l, 0 ≤ x ∧ x ≤ 255) ∧ l.length ≤ 9223372036854775807 ∧ (0 < l.length → ∀ g, c.ownBlock = some g → g < w.heap.size) :=
  open_slice bE 1 (fun x => 0 ≤ x ∧ x ≤ 255) under_bytes (by kernel_rfl) (by omega) (fun n cs y h => trod_byte h) hf
theorem slice_cells {t e : TypeId} (hu : Tryz.prog.underlying t = some (.slice e)) (hv : Value.okWide Tryz.prog w r b0 t v) : v.cells.toList = [v] := by
  unfold Value.okWide at hv
  rw [hu] at hv
  unfold Cell.okWide at hv
  rw [hu] at hv
  cases v <;> first | rfl | (unfold Cell.ok at hv; rw [hu] at hv; exact absurd hv id)
theorem open_Bs (hv : Value.okWide Tryz.prog w r b0 25 v) (h : DataW.Trod enc Tryz.prog w 0 spare held 25 v d p) :
    ∃ l : List Int, HoldsW bE 1 w v l ∧ (∀ x ∈ l, 0 ≤ x ∧ x ≤ 255) ∧ l.length ≤ 9223372036854775807 ∧ (0 < l.length → ∀ g, v.ownBlock = some g → g < w.heap.size) := by
  obtain ⟨fuel, hf⟩ := h
  rw [slice_cells under_bytes hv] at hf
  exact trod_bytes hf
theorem trod_int1 {fuel : Nat} {c : Value} {y : DataW H × List MemPlace} (h : DataW.trod enc Tryz.prog w base spare held fuel 3 [c] = some y) : ∃ n : Int, c = .int .i64 n := by
  obtain ⟨n, e0, _⟩ := DataW.trod_int Tryz.underlying3 h
  simp only [List.cons.injEq, and_true] at e0
  exact ⟨n, e0⟩
theorem trod_b1 {fuel : Nat} {c : Value} {y : DataW H × List MemPlace} (h : DataW.trod enc Tryz.prog w base spare held fuel 4 [c] = some y) : ∃ n : Bool, c = .bool n := by
  obtain ⟨n, e0, _⟩ := DataW.trod_bool Tryz.underlying4 h
  simp only [List.cons.injEq, and_true] at e0
  exact ⟨n, e0⟩

theorem list4 {α : Type} {xs : List α} (h : xs.length = 4) : ∃ a b c d, xs = [a, b, c, d] := by
  match xs, h with
  | [a, b, c, d], _ => exact ⟨a, b, c, d, rfl⟩
theorem array4 {cs : Array Value} (h : cs.size = 4) : ∃ a b c d, cs = #[a, b, c, d] := by
  obtain ⟨cs⟩ := cs
  match cs, h with
  | [a, b, c, d], _ => exact ⟨a, b, c, d, rfl⟩
theorem array9 {cs : Array Value} (h : cs.size = 9) : ∃ a b c d e f g i j, cs = #[a, b, c, d, e, f, g, i, j] := by
  obtain ⟨cs⟩ := cs
  match cs, h with
  | [a, b, c, d, e, f, g, i, j], _ => exact ⟨a, b, c, d, e, f, g, i, j, rfl⟩
theorem trod_tm {fuel : Nat} {c0 c1 c2 c3 c4 c5 : Value} {y : DataW H × List MemPlace} (h : DataW.trod enc Tryz.prog w base spare held fuel 24 [c0, c1, c2, c3, c4, c5] = some y) : ∃ x : Tm, c0 = .int .i64 x.l ∧ c1 = .int .i64 x.c ∧ c2 = .bool x.r ∧ c3 = .bool x.a ∧ c4 = .bool x.s ∧ c5 = .bool x.g := by
  obtain ⟨xs, m, _, _, _, hl, hf⟩ := DataW.trod_struct Tryz.underlying24 h
  obtain ⟨y0, y1, y2, y3, y4, y5, rfl⟩ := list6 hl
  obtain ⟨n0, rfl⟩ := trod_int1 (show DataW.trod enc Tryz.prog w base spare held m 3 [c0] = some y0 from hf 0 _ rfl)
  obtain ⟨n1, rfl⟩ := trod_int1 (show DataW.trod enc Tryz.prog w base spare held m 3 [c1] = some y1 from hf 1 _ rfl)
  obtain ⟨n2, rfl⟩ := trod_b1 (show DataW.trod enc Tryz.prog w base spare held m 4 [c2] = some y2 from hf 2 _ rfl)
  obtain ⟨n3, rfl⟩ := trod_b1 (show DataW.trod enc Tryz.prog w base spare held m 4 [c3] = some y3 from hf 3 _ rfl)
  obtain ⟨n4, rfl⟩ := trod_b1 (show DataW.trod enc Tryz.prog w base spare held m 4 [c4] = some y4 from hf 4 _ rfl)
  obtain ⟨n5, rfl⟩ := trod_b1 (show DataW.trod enc Tryz.prog w base spare held m 4 [c5] = some y5 from hf 5 _ rfl)
  exact ⟨⟨n0, n1, n2, n3, n4, n5⟩, rfl, rfl, rfl, rfl, rfl, rfl⟩
def ckE (x : Ck × Value) : List Value := [.int .i64 x.1.a, x.2, .int .u8 x.1.t]
def ckG (w : World) (x : Ck × Value) : Prop := HoldsW bE 1 w x.2 x.1.l ∧ x.1.l.length ≤ 9223372036854775807 ∧ (∀ y ∈ x.1.l, 0 ≤ y ∧ y ≤ 255) ∧ (0 < x.1.l.length → ∀ g, x.2.ownBlock = some g → g < w.heap.size) ∧ (-9223372036854775808 ≤ x.1.a ∧ x.1.a ≤ 9223372036854775807) ∧ 0 ≤ x.1.t ∧ x.1.t ≤ 255
instance : Inhabited (Ck × Value) := ⟨⟨⟨0, [], 0⟩, .int .i64 0⟩⟩
theorem trod_ck {fuel : Nat} {cs : List Value} {spare : Nat → Bool} {y : DataW H × List MemPlace} (h : DataW.trod enc Tryz.prog w 0 spare held fuel 73 cs = some y) : ∃ x : Ck × Value, cs = ckE x ∧ ckG w x := by
  obtain ⟨xs, m, _, _, hcl, hl, hf⟩ := DataW.trod_struct Tryz.underlying73 h
  obtain ⟨c0, c1, c2, rfl⟩ := list3 (hcl.trans (by kernel_rfl))
  obtain ⟨y0, y1, y2, rfl⟩ := list3 hl
  obtain ⟨a, e0, _, wn⟩ := DataW.trod_int Tryz.underlying3 (show DataW.trod enc Tryz.prog w 0 spare held m 3 [c0] = some y0 from hf 0 _ rfl)
  obtain ⟨l, h1, h0, h2, h3⟩ := trod_bytes (show DataW.trod enc Tryz.prog w 0 spare held m 25 [c1] = some y1 from hf 1 _ rfl)
  obtain ⟨b, e1, hb⟩ := trod_byte (show DataW.trod enc Tryz.prog w 0 spare held m 5 [c2] = some y2 from hf 2 _ rfl)
  have hbb := bounds_i64 wn
  unfold bE at e1
  simp only [List.cons.injEq, and_true] at e0 e1
  subst e0; subst e1
  exact ⟨⟨⟨a, l, b⟩, c1⟩, rfl, h1, h2, h0, h3, ⟨show -9223372036854775808 ≤ a by omega, show a ≤ 9223372036854775807 by omega⟩, hb⟩
theorem under_cks : Tryz.prog.underlying 22 = some (.slice 73) := by kernel_rfl
theorem open_Su (hv : Value.okWide Tryz.prog w r b0 27 v) (h : DataW.Trod enc Tryz.prog w 0 spare held 27 v d p) :
    ∃ (s : Su) (lv pv sv : Value), v = .agg (suA lv pv sv s.T) ∧ InS w.heap.size w lv pv sv s := by
  obtain ⟨cs, rfl, hsz⟩ := okWide_struct Tryz.underlying27 hv
  obtain ⟨c0, c1, c2, c3, c4, c5, c6, c7, c8, rfl⟩ := array9 (hsz.trans (by kernel_rfl))
  obtain ⟨fuel, hf⟩ := h
  obtain ⟨xs, m, _, _, _, hl, hf⟩ := DataW.trod_struct Tryz.underlying27 (show DataW.trod enc Tryz.prog w 0 spare held fuel 27 [c0, c1, c2, c3, c4, c5, c6, c7, c8] = some _ from hf)
  obtain ⟨y0, y1, y2, y3, rfl⟩ := list4 hl
  obtain ⟨l, h1, h2, h3, h4⟩ := open_slice ckE 3 (ckG w) under_cks (by kernel_rfl) (by omega) (fun n cs y h => trod_ck h) (show DataW.trod enc Tryz.prog w 0 spare held m 22 [c0] = some y0 from hf 0 _ rfl)
  obtain ⟨T, rfl, rfl, rfl, rfl, rfl, rfl⟩ := trod_tm (show DataW.trod enc Tryz.prog w 0 spare held m 24 [c1, c2, c3, c4, c5, c6] = some y1 from hf 1 _ rfl)
  obtain ⟨l1, p1, p2, p3, p4⟩ := trod_bytes (show DataW.trod enc Tryz.prog w 0 spare held m 25 [c7] = some y2 from hf 2 _ rfl)
  obtain ⟨l2, s1, s2, s3, s4⟩ := trod_bytes (show DataW.trod enc Tryz.prog w 0 spare held m 25 [c8] = some y3 from hf 3 _ rfl)
  refine ⟨⟨l.map (·.1), T, l1, l2⟩, c0, c7, c8, rfl, ?_, by simpa using h3, fun x hx => ?_, ⟨p1, p2, p3⟩, ⟨s1, s2, s3⟩⟩
  · dsimp only
    rcases h1 with ⟨h5, rfl⟩ | ⟨g, o, cap, rfl, hcap, hc⟩
    · exact .inl ⟨h5, rfl⟩
    · by_cases h0 : l.length = 0
      · exact .inl ⟨⟨_, _, by rw [h0]⟩, by simpa using List.length_eq_zero_iff.1 h0⟩
      refine .inr ⟨g, o, cap, by simp, by simpa using hcap, h4 (by omega) g rfl, fun j x hx => ?_⟩
      rw [List.getElem?_map] at hx
      obtain ⟨⟨x', lv⟩, hx2, rfl⟩ := Option.map_eq_some_iff.1 hx
      have hg := h2 _ (List.mem_of_getElem? hx2)
      exact ⟨lv, hc j _ hx2 0 _ rfl, hc j _ hx2 1 _ rfl, hc j _ hx2 2 _ rfl, hg.1, hg.2.2.2.1⟩
  · obtain ⟨y, hy, rfl⟩ := List.mem_map.1 hx
    have hg := h2 y hy
    exact ⟨hg.2.2.2.2.1, hg.2.2.1, hg.2.1, hg.2.2.2.2.2⟩
theorem trod_o13 {fuel : Nat} {cs : List Value} {spare : Nat → Bool} {y : DataW H × List MemPlace} (h : DataW.trod enc Tryz.prog w 0 spare held fuel 51 cs = some y) : ∃ x : Op13, cs = opE x ∧ opG x := by
  obtain ⟨xs, m, _, _, hcl, hl, hf⟩ := DataW.trod_struct Tryz.underlying51 h
  obtain ⟨c0, c1, c2, c3, rfl⟩ := list4 (hcl.trans (by kernel_rfl))
  obtain ⟨y0, y1, y2, rfl⟩ := list3 hl
  obtain ⟨b, rfl⟩ := trod_b1 (show DataW.trod enc Tryz.prog w 0 spare held m 4 [c0] = some y0 from hf 0 _ rfl)
  obtain ⟨a, ea, _, wn⟩ := DataW.trod_int Tryz.underlying3 (show DataW.trod enc Tryz.prog w 0 spare held m 3 [c1] = some y1 from hf 1 _ rfl)
  have hbb := bounds_i64 wn
  simp only [List.cons.injEq, and_true] at ea
  subst ea
  obtain ⟨zs, m', _, _, _, hl', hf'⟩ := DataW.trod_struct Tryz.underlying49 (show DataW.trod enc Tryz.prog w 0 spare held m 49 [c2, c3] = some y2 from hf 2 _ rfl)
  obtain ⟨z0, z1, rfl⟩ := list2 hl'
  obtain ⟨v, e0, hv⟩ := trod_byte (show DataW.trod enc Tryz.prog w 0 spare held m' 5 [c2] = some z0 from hf' 0 _ rfl)
  obtain ⟨t, e1, ht⟩ := trod_byte (show DataW.trod enc Tryz.prog w 0 spare held m' 5 [c3] = some z1 from hf' 1 _ rfl)
  unfold bE at e0 e1
  simp only [List.cons.injEq, and_true] at e0 e1
  subst e0; subst e1
  exact ⟨⟨b, a, v, t⟩, rfl, hv, ht, show -9223372036854775808 ≤ a by omega, show a ≤ 9223372036854775807 by omega⟩
theorem under_o13 : Tryz.prog.underlying 28 = some (.slice 51) := by kernel_rfl
instance : Inhabited Op13 := ⟨⟨false, 0, 0, 0⟩⟩
theorem open_Op13 (hv : Value.okWide Tryz.prog w r b0 28 v) (h : DataW.Trod enc Tryz.prog w 0 spare held 28 v d p) :
    ∃ l : List Op13, HoldsW opE 4 w v l ∧ (∀ x ∈ l, opG x) ∧ l.length ≤ 9223372036854775807 ∧ (0 < l.length → ∀ g, v.ownBlock = some g → g < w.heap.size) := by
  obtain ⟨fuel, hf⟩ := h
  rw [slice_cells under_o13 hv] at hf
  exact open_slice opE 4 opG under_o13 (by kernel_rfl) (by omega) (fun n cs y h => trod_o13 h) hf
theorem open_One13 (hv : Value.okWide Tryz.prog w r b0 51 v) (h : DataW.Trod enc Tryz.prog w 0 spare held 51 v d p) : ∃ o : Op13, v = .agg #[.bool o.wr, .int .i64 o.a, .int .u8 o.v, .int .u8 o.t] ∧ opG o := by
  obtain ⟨cs, rfl, hsz⟩ := okWide_struct Tryz.underlying51 hv
  obtain ⟨c0, c1, c2, c3, rfl⟩ := array4 (hsz.trans (by kernel_rfl))
  obtain ⟨fuel, hf⟩ := h
  obtain ⟨x, e, hg⟩ := trod_o13 (show DataW.trod enc Tryz.prog w 0 spare held fuel 51 [c0, c1, c2, c3] = some _ from hf)
  unfold opE at e
  simp only [List.cons.injEq, and_true] at e
  obtain ⟨rfl, rfl, rfl, rfl⟩ := e
  exact ⟨x, rfl, hg⟩
theorem under_is : Tryz.prog.underlying 41 = some (.slice 3) := by kernel_rfl
theorem open_Is (hv : Value.okWide Tryz.prog w r b0 41 v) (h : DataW.Trod enc Tryz.prog w 0 spare held 41 v d p) :
    ∃ l : List Int, HoldsW cE 1 w v l ∧ (∀ x ∈ l, i64I x) ∧ l.length ≤ 9223372036854775807 ∧ (0 < l.length → ∀ g, v.ownBlock = some g → g < w.heap.size) := by
  obtain ⟨fuel, hf⟩ := h
  rw [slice_cells under_is hv] at hf
  exact open_slice cE 1 i64I under_is (by kernel_rfl) (by omega) (fun n cs y h => by obtain ⟨k, e, _, wn⟩ := DataW.trod_int Tryz.underlying3 h; have hbb := bounds_i64 wn; exact ⟨k, e, show -9223372036854775808 ≤ k by omega, show k ≤ 9223372036854775807 by omega⟩) hf
end
end Go.Proofs.YtcnejgilmciljaaGreatDoor
