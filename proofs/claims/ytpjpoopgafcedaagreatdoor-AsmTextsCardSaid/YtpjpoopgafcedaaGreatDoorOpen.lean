/-
  How a line, bytes, a text and an integer open; starts that lay the listed tables; what the rows' lists of variables say of them.
-/
import Derived.Test.YtpjpoopgafcedaaGreatDoorRows
import Derived.Test.YtpjpoopgafcedaaGreatDoorLawKit
import Derived.Test.YtpjpoopgafcedaaGreatDoorParw
import Derived.Test.YtpjpoopgafcedaaGreatDoorReadpAll
import Derived.WalkKit
import Derived.ProofKit
import Derived.OpenShut
import Derived.Lib.SmallJoins
import Derived.Laws.IdiomArrays
import Derived.LaidMore
import Derived.Lay
import Derived.FnData
import Derived.ChangeMaps5
import Derived.ChangeSlices
import Derived.Stop.LaidErr
set_option linter.unusedSimpArgs false
set_option linter.unusedVariables false
set_option maxRecDepth 100000
namespace Go.Proofs.YtpjpoopgafcedaaGreatDoor
open Go.ChangeShapes Go.WideShapes Go.ChangeAt Go.RowKit Go.Joins

theorem Tryz.own : ownKnob Tryz.prog.godebug = none := by kernel_rfl
theorem Tryz.laid : laidOutB Tryz.prog = true := by kernel_rfl

abbrev laidC : List (String × DataW Unit) := [("math/bits.deBruijn32tab", Rows.laid_math_bits_deBruijn32tab), ("math/bits.deBruijn64tab", Rows.laid_math_bits_deBruijn64tab), ("internal/strconv.uint64pow10", Rows.laid_internal_strconv_uint64pow10), ("unicode/utf8.acceptRanges", Rows.laid_unicode_utf8_acceptRanges), ("cochineal/asm.arounds", Rows.laid_cochineal_asm_arounds), ("unicode.CaseRanges", Rows.laid_unicode_CaseRanges), ("unicode/utf8.first", Rows.laid_unicode_utf8_first)]
theorem case_var (os : Os) (args : Array Value) : ((World.laidAll Tryz.prog os laidC).forCall (fun _ _ => 0) ⟨#[], args, []⟩).Shaped Tryz.prog :=
  World.shaped_of_ZipB (by kernel_rfl) (by kernel_rfl)
theorem case_met (os : Os) (args : Array Value) : laidMetH Tryz.prog laidC ((World.laidAll Tryz.prog os laidC).forCall (fun _ _ => 0) ⟨#[], args, []⟩).memory := by
  rw [MakeChecks.laidMetH_plain _ _ _ (by kernel_rfl)]
  exact laidMet_laidAll _ (by kernel_rfl) (by kernel_rfl)

/-- The datum of a row of the program's table. -/
def aroundD (m : Nat) : DataW Unit := .agg [.lit (.string (befP m)), .lit (.int .i64 (dgP m)), .lit (.string (aftP m))]
theorem laid_is : (Rows.laid_cochineal_asm_arounds : DataW Unit) = .agg ((List.range 13).map aroundD) := by kernel_rfl
theorem list3 {α : Type} {xs : List α} (h : xs.length = 3) : ∃ a b c, xs = [a, b, c] := by
  match xs, h with
  | [a, b, c], _ => exact ⟨a, b, c, rfl⟩
section
variable {enc : TypeId × Value → Unit} {w : World} {base : Nat} {spare : Nat → Bool} {held : Bool}
theorem trod_i {fuel : Nat} {c : Value} {n : Int} {y : DataW Unit × List MemPlace} (h : DataW.trod enc Tryz.prog w base spare held fuel 3 [c] = some y) (hd : y.1 = .lit (.int .i64 n)) : c = .int .i64 n := by
  obtain ⟨k, e1, e2, _⟩ := DataW.trod_int Tryz.underlying3 h
  rw [e2] at hd
  simp only [DataW.lit.injEq, Lit.int.injEq, true_and] at hd
  rw [hd] at e1
  simpa using e1
theorem trod_u {fuel : Nat} {c : Value} {n : Int} {y : DataW Unit × List MemPlace} (h : DataW.trod enc Tryz.prog w base spare held fuel 5 [c] = some y) (hd : y.1 = .lit (.int .u8 n)) : c = .int .u8 n := by
  obtain ⟨k, e1, e2, _⟩ := DataW.trod_int Tryz.underlying5 h
  rw [e2] at hd
  simp only [DataW.lit.injEq, Lit.int.injEq, true_and] at hd
  rw [hd] at e1
  simpa using e1
theorem trod_s {fuel : Nat} {c : Value} {l : List UInt8} {y : DataW Unit × List MemPlace} (h : DataW.trod enc Tryz.prog w base spare held fuel 9 [c] = some y) (hd : y.1 = .lit (.string l)) : c = .string ⟨l.toArray⟩ := by
  obtain ⟨s, e1, e2, _⟩ := DataW.trod_string Tryz.underlying9 h
  rw [e2] at hd
  simp only [DataW.lit.injEq, Lit.string.injEq] at hd
  rw [← hd]
  simpa using e1
theorem trod_around {fuel : Nat} {cs : List Value} {n : Nat} {y : DataW Unit × List MemPlace} (h : DataW.trod enc Tryz.prog w base spare held fuel 50 cs = some y) (hd : y.1 = aroundD n) : cs = arC n := by
  obtain ⟨xs, m, _, ex, hcl, hl, hf⟩ := DataW.trod_struct Tryz.underlying50 h
  obtain ⟨c0, c1, c2, rfl⟩ := list3 (hcl.trans (by kernel_rfl))
  obtain ⟨y0, y1, y2, rfl⟩ := list3 hl
  rw [ex] at hd
  have e := DataW.agg.inj hd
  simp only [List.map_cons, List.map_nil, List.cons.injEq, and_true] at e
  obtain rfl := trod_s (show DataW.trod enc Tryz.prog w base spare held m 9 [c0] = some y0 from hf 0 _ rfl) e.1
  obtain rfl := trod_i (show DataW.trod enc Tryz.prog w base spare held m 3 [c1] = some y1 from hf 1 _ rfl) e.2.1
  obtain rfl := trod_s (show DataW.trod enc Tryz.prog w base spare held m 9 [c2] = some y2 from hf 2 _ rfl) e.2.2
  rfl
end
theorem arA_three (n : Nat) (hn : n < 13) : ((arA.toList).drop (n * 3)).take 3 = arC n := by
  have h1 : n = 0 ∨ n = 1 ∨ n = 2 ∨ n = 3 ∨ n = 4 ∨ n = 5 ∨ n = 6 ∨ n = 7 ∨ n = 8 ∨ n = 9 ∨ n = 10 ∨ n = 11 ∨ n = 12 := by omega
  rcases h1 with rfl | rfl | rfl | rfl | rfl | rfl | rfl | rfl | rfl | rfl | rfl | rfl | rfl <;> rfl
theorem rows_eq : ∀ (k : Nat) (l l' : List Value), l.length = 3 * k → l'.length = 3 * k → (∀ n, n < k → (l.drop (n * 3)).take 3 = (l'.drop (n * 3)).take 3) → l = l'
  | 0, l, l', h, h', _ => by
    rw [List.length_eq_zero_iff.1 (by omega : l.length = 0), List.length_eq_zero_iff.1 (by omega : l'.length = 0)]
  | k + 1, l, l', h, h', e => by
    have e0 := e 0 (by omega)
    simp only [Nat.zero_mul, List.drop_zero] at e0
    have e1 := rows_eq k (l.drop 3) (l'.drop 3) (by simp; omega) (by simp; omega) fun n hn => by
      have := e (n + 1) (by omega)
      rw [List.drop_drop, List.drop_drop, show 3 + n * 3 = (n + 1) * 3 by omega]
      exact this
    rw [← List.take_append_drop 3 l, ← List.take_append_drop 3 l', e0, e1]
theorem laid_ars {W : World} {r : List (String × DataW Unit)} (h : laidMet Tryz.prog (("cochineal/asm.arounds", Rows.laid_cochineal_asm_arounds) :: r) W) : ∃ t fr, W.heap[0]? = some (.cells arA t fr) := by
  obtain ⟨ps, ⟨g, t, cs, fuel, p, q, hg, ht, hv, hd, _, _⟩, _, _⟩ := h
  obtain rfl := Option.some.inj ((show Tryz.prog.globalNamed "cochineal/asm.arounds" = some 0 by kernel_rfl).symm.trans hg)
  obtain rfl := Option.some.inj ((show (Tryz.prog.globals[0]?).map (·.type) = some 51 by kernel_rfl).symm.trans ht)
  obtain ⟨xs, m, _, ex, hcl, hl, hel⟩ := DataW.trod_array under_ars hd
  have c3 : Tryz.prog.cellsOf 50 = 3 := by kernel_rfl
  have hlen : cs.toList.length = 39 := hcl.trans (by kernel_rfl)
  have e3 : (xs.map (·.1)) = (List.range 13).map aroundD := by
    have := (Prod.mk.inj ex).1
    rw [laid_is] at this
    exact (DataW.agg.inj this).symm
  have hz : arA.toList.length = 39 := by rw [← Array.size_eq_length_toList]; exact arA_size
  have hc : cs.toList = arA.toList := by
    refine rows_eq 13 _ _ hlen hz fun n hn => ?_
    have hE := hel n hn
    rw [c3, List.getElem?_eq_getElem (by omega)] at hE
    have e4 : (xs.map (·.1))[n]? = ((List.range 13).map aroundD)[n]? := by rw [e3]
    rw [List.getElem?_map, List.getElem?_map, List.getElem?_eq_getElem (by omega : n < xs.length), List.getElem?_range hn] at e4
    simp only [Option.map_some, Option.some.injEq] at e4
    rw [trod_around hE e4, arA_three n hn]
  have hc' : cs = arA := Array.toList_inj.1 hc
  subst hc'
  simp only [World.var?, hg, Option.bind_some] at hv
  split at hv
  · rename_i cs' t' fr' hh
    simp only [Option.some.injEq] at hv
    subst hv
    exact ⟨t', fr', hh⟩
  · cases hv
theorem tab_15 : ∃ (l : List (DataW Unit)), (Rows.laid_math_bits_deBruijn64tab : DataW Unit) = .agg l ∧ l[15]? = some (.lit (.int .u8 4)) := ⟨_, rfl, rfl⟩
theorem under_tab : Tryz.prog.underlying 147 = some (.array 64 5) := by kernel_rfl
theorem laid_tz {W : World} {r : List (String × DataW Unit)} (h : laidMet Tryz.prog (("math/bits.deBruijn64tab", Rows.laid_math_bits_deBruijn64tab) :: r) W) : W.cell? ⟨9, 15, none⟩ = some (.int .u8 4) := by
  obtain ⟨ps, ⟨g, t, cs, fuel, p, q, hg, ht, hv, hd, _, _⟩, _, _⟩ := h
  obtain rfl := Option.some.inj ((show Tryz.prog.globalNamed "math/bits.deBruijn64tab" = some 9 by kernel_rfl).symm.trans hg)
  obtain rfl := Option.some.inj ((show (Tryz.prog.globals[9]?).map (·.type) = some 147 by kernel_rfl).symm.trans ht)
  obtain ⟨xs, m, _, ex, hcl, hl, hel⟩ := DataW.trod_array under_tab hd
  have c1 : Tryz.prog.cellsOf 5 = 1 := by kernel_rfl
  have hlen : cs.toList.length = 64 := hcl.trans (by kernel_rfl)
  obtain ⟨l, hlt, h15⟩ := tab_15
  have e3 : (xs.map (·.1)) = l := by
    have := (Prod.mk.inj ex).1
    rw [hlt] at this
    exact (DataW.agg.inj this).symm
  have hE := hel 15 (by omega)
  rw [c1, List.getElem?_eq_getElem (by omega)] at hE
  have e4 : (xs.map (·.1))[15]? = some (.lit (.int .u8 4)) := by rw [e3]; exact h15
  rw [List.getElem?_map, List.getElem?_eq_getElem (by omega : 15 < xs.length)] at e4
  simp only [Option.map_some, Option.some.injEq] at e4
  have hcell : cs.toList[15]? = some (.int .u8 4) := by
    have h15c : (cs.toList.drop (15 * 1)).take 1 = [cs.toList[15]'(by omega)] := by
      rw [List.drop_eq_getElem_cons (by omega)]
      rfl
    rw [h15c] at hE
    rw [List.getElem?_eq_getElem (by omega), trod_u hE e4]
  exact World.var?_cell hg hv 15 |>.trans (by rw [← hcell]; simp)
theorem Tryz.gES : Tryz.prog.globalNamed "strconv.ErrSyntax" = some 6 := by kernel_rfl
theorem Tryz.gESType : (Tryz.prog.globals[6]?).map (·.type) = some 86 := by kernel_rfl
theorem star_es : "*" ++ "errors.errorString" = "*errors.errorString" := by decide
theorem Tryz.rowES (u : TypeId) (h : Tryz.prog.typeName? 3 u = some "*errors.errorString") : u = 152 :=
  typeName_ptr_named (nm := "errors.errorString") (by rw [star_es]; kernel_rfl) (by kernel_rfl) (by decide) u (by rw [star_es]; exact h)
theorem Tryz.cellsES : Tryz.prog.cellsOf 154 = 1 := by kernel_rfl
theorem Tryz.cellsS : Tryz.prog.cellsOf 9 = 1 := by kernel_rfl
theorem laid_err {W : World} {r : List (String × DataW Unit)} (h : laidMet Tryz.prog (("strconv.ErrSyntax", Rows.laid_strconv_ErrSyntax) :: r) W) : LaidE W := by
  obtain ⟨a0, s0, hv0, -, -, -⟩ := laid_sentinel (show laidMet Tryz.prog (("strconv.ErrSyntax", .iface "*errors.errorString" (.ptr (.agg [.lit (.string [105, 110, 118, 97, 108, 105, 100, 32, 115, 121, 110, 116, 97, 120])]))) :: r) W from h) Tryz.gES Tryz.gESType Tryz.underlying86 Tryz.rowES Tryz.underlying152 Tryz.underlying154 rfl rfl Tryz.underlying9 Tryz.cellsES Tryz.cellsS
  exact ⟨_, _, by have h0 := World.var?_cell Tryz.gES hv0 0; simpa using h0⟩
theorem laid_of {W : World} (h : laidMetH Tryz.prog laidC W) : Laid W := by
  rw [MakeChecks.laidMetH_plain _ _ _ (by kernel_rfl)] at h
  have h1 := laidMet.tail h
  have h2 := laidMet.tail h1
  have h3 := laidMet.tail h2
  have h4 := laidMet.tail h3
  exact ⟨laid_ars h4, laid_tz h1⟩

section
variable {H : Type} {enc : TypeId × Value → H} {w : World} {base : Nat} {spare : Nat → Bool} {held : Bool} {r : Reach} {b0 : Nat} {v : Value} {d : DataW H} {p : List MemPlace}
theorem some2 {α : Type} {xs : List α} (h : xs.length = 2) : ∃ a b, xs = [a, b] := by
  match xs, h with
  | [a, b], _ => exact ⟨a, b, rfl⟩
theorem open_Line (hv : Value.okWide Tryz.prog w r b0 32 v) (h : DataW.Trod enc Tryz.prog w base spare held 32 v d p) : ∃ (b : Nat) (n : Int), v = .agg #[.int .u8 b, .int .i64 n] ∧ b < 256 := by
  obtain ⟨cs, rfl, hsz⟩ := okWide_struct Tryz.underlying32 hv
  obtain ⟨c0, c1, rfl⟩ := array2 (hsz.trans (by kernel_rfl))
  obtain ⟨fuel, hf⟩ := h
  obtain ⟨xs, n, _, _, _, hl, hf⟩ := DataW.trod_struct Tryz.underlying32 hf
  obtain ⟨y0, y1, rfl⟩ := some2 hl
  obtain ⟨x, e0, _, wx⟩ := DataW.trod_int Tryz.underlying5 (show DataW.trod enc Tryz.prog w base spare held n 5 [c0] = some y0 from hf 0 _ rfl)
  obtain ⟨y, e1, _, wy⟩ := DataW.trod_int Tryz.underlying3 (show DataW.trod enc Tryz.prog w base spare held n 3 [c1] = some y1 from hf 1 _ rfl)
  simp only [List.cons.injEq, and_true] at e0 e1
  subst e0
  subst e1
  have hb := bounds_u8 wx
  refine ⟨x.toNat, y, ?_, by omega⟩
  rw [Int.toNat_of_nonneg hb.1]
theorem open_i64 (hv : Value.okWide Tryz.prog w r b0 3 v) (h : DataW.Trod enc Tryz.prog w base spare held 3 v d p) : ∃ n : Int, v = .int .i64 n ∧ -9223372036854775808 ≤ n ∧ n ≤ 9223372036854775807 := by
  obtain ⟨n, rfl, _, _, wn⟩ := open_int Tryz.underlying3 hv h
  have hb := bounds_i64 wn
  exact ⟨n, rfl, by omega, by omega⟩
theorem open_S (hv : Value.okWide Tryz.prog w r b0 9 v) (h : DataW.Trod enc Tryz.prog w base spare held 9 v d p) : ∃ l : List UInt8, v = .string (txB l) ∧ l.length ≤ 9223372036854775807 := by
  obtain ⟨s, rfl, _, hs⟩ := Go.ChangeMaps.open_string Tryz.underlying9 hv h
  refine ⟨s.data.toList, by simp, ?_⟩
  have e : s.data.toList.length = s.size := Array.length_toList
  have hm : maxLen = 9223372036854775807 := by decide
  omega
theorem byte_wf {x : Int} (h : (Lit.int .u8 x).wf = true) : 0 ≤ x ∧ x < 256 := by
  have h1 : IntKind.u8.min = 0 := rfl
  have h2 : IntKind.u8.max = 255 := rfl
  simp only [Lit.wf, Bool.and_eq_true, decide_eq_true_eq] at h
  omega
end
theorem open_B {H : Type} {enc : TypeId × Value → H} {w : World} {r : Reach} {b0 : Nat} {v : Value} {d : DataW H} {p : List MemPlace} (hv : Value.okWide Tryz.prog w r b0 23 v) (h : DataW.Trod enc Tryz.prog w 0 (fun _ => true) true 23 v d p) :
    ∃ l : List Int, HoldsC w v l ∧ (∀ x ∈ l, 0 ≤ x ∧ x < 256) ∧ l.length ≤ maxLen := by
  obtain ⟨fuel, hf⟩ := h
  have hc : Tryz.prog.cellsOf 5 = 1 := by kernel_rfl
  have hok : Cell.okWide Tryz.prog w r b0 23 v := by
    unfold Value.okWide at hv
    rw [Tryz.underlying23] at hv
    exact hv
  cases v
  case slice a0 len cap =>
    rcases open_ints Tryz.underlying23 Tryz.underlying5 hc hf with ⟨hcs, _⟩ | ⟨a, len', cap', zs, hcs, _, hl, hm, hz, _, hcell, hwz⟩
    · simp [Value.cells] at hcs
      obtain ⟨rfl, rfl, rfl⟩ := hcs
      refine ⟨[], ⟨.inl ⟨rfl, rfl⟩, fun p n c e => by cases e; omega⟩, fun x hx => (by cases hx), Nat.zero_le _⟩
    · simp [Value.cells] at hcs
      obtain ⟨rfl, rfl, rfl⟩ := hcs
      simp only [if_true] at hz
      have hspot : a.spot = none := by
        unfold Cell.okWide at hok
        rw [Tryz.underlying23] at hok
        unfold Cell.ok at hok
        rw [Tryz.underlying23] at hok
        exact hok.2.2.2.1
      obtain ⟨g, o, sp⟩ := a
      dsimp only at hspot
      subst hspot
      have hlen : (zs.take len).length = len := by rw [List.length_take]; omega
      refine ⟨zs.take len, ⟨.inr ⟨g, o, cap, by rw [hlen], fun j x hx => ?_⟩, fun p n c e => by cases e; exact hl⟩, fun x hx => byte_wf (hwz x (List.mem_of_mem_take hx)), by rw [hlen]; omega⟩
      have hj : j < len := by
        have := (List.getElem?_eq_some_iff.1 hx).1
        omega
      have h1 := hcell j (by omega)
      rw [Addr.add_lit] at h1
      rw [List.getElem?_take, if_pos hj] at hx
      rw [h1, List.getD_eq_getElem?_getD, hx]
      rfl
  all_goals
    exfalso
    unfold Cell.okWide at hok
    rw [Tryz.underlying23] at hok
    unfold Cell.ok at hok
    rw [Tryz.underlying23] at hok
    exact hok
end Go.Proofs.YtpjpoopgafcedaaGreatDoor
