/-
  The program's Whole.
-/
import Derived.Test.YtkabpnchfhkhgaaTrunc12
import Derived.Test.YtkabpnchfhkhgaaFrame
set_option linter.unusedSimpArgs false
set_option linter.unusedVariables false
namespace Go.Proofs.Ytkabpnchfhkhgaa
open Go.RowKit Go.PlainAid

theorem far_lo : zF (-1099511627776) = 14010698440749613056 := by decide +kernel
theorem far_hi : zF 1099511627776 = 4787326403894837248 := by decide +kernel
theorem conv_i8 (n : Int) (W : World) : (convert 60 46 (.int .i8 n)).run Try.prog W = .ok (.float .f64 (zF n)) W := by
  rw [← zF_of]
  exact run_convert_int_float W 60 46 .i8 .f64 n (by kernel_rfl) (by kernel_rfl)
theorem ZW.int64 {n : Int} {P : Nat} (h : ZW n P) (W : World) : (convert 46 2 (.float .f64 P)).run Try.prog W = .ok (.int .i64 n) W := by
  obtain ⟨s, rfl, f⟩ := h
  refine run_convert_float_int W 46 2 .f64 .i64 _ n (by kernel_rfl) (by kernel_rfl) ?_
  have hn := f.n
  unfold floatToIntVal
  rw [fz_int f]
  dsimp only
  rw [if_pos]
  have e1 : IntKind.i64.min = -9223372036854775808 := by decide
  have e2 : IntKind.i64.max = 9223372036854775807 := by decide
  rw [e1, e2]
  rw [p53] at hn
  omega
theorem wrap8_back (n : Int) : IntKind.i8.wrap n = backI n := by
  have h : IntKind.i8.wrap n = (n + 128) % 256 - 128 := by
    simp [IntKind.wrap, IntKind.bits, IntKind.signed]; omega
  rw [h]
  unfold backI
  have hm := Int.mul_tdiv_add_tmod n 256
  have ht := tmod256 n
  by_cases h1 : n.tmod 256 < -128
  · rw [if_pos h1]; omega
  · rw [if_neg h1]
    by_cases h2 : 127 < n.tmod 256
    · rw [if_pos h2]; omega
    · rw [if_neg h2]; omega
/-- What mayBe answers. -/
def MayB (P : Nat) (b : Bool) : Prop := ∀ W, Calls Try.prog 26 #[.float .f64 P] W fun e w' => e = .returned (.bool b) ∧ Below W.heap.size W w'
set_option maxRecDepth 100000 in
theorem maybe_two {P D : Nat} {e : Bool} (h1 : (FloatKind.f64.format.order P 14010698440749613056 == some .gt || FloatKind.f64.format.order P 14010698440749613056 == some .eq) = true)
    (h2 : (FloatKind.f64.format.order P 4787326403894837248 == some .lt || FloatKind.f64.format.order P 4787326403894837248 == some .eq) = true)
    (ht : ∀ W, (callFunc 28 #[.float .f64 P]).run Try.prog W = .ok (.value (.float .f64 D)) W) (he : (FloatKind.f64.format.order P D == some .eq) = e) : MayB P e := by
  intro w
  have HT := Lib.hid (fun W => trunc_c ht W)
  clear ht
  go_enter Try.func26, Try.ntmps26
  go_wp2_with fail
  refine (HT.out _).mono ?_
  rintro _ u ⟨rfl, hb⟩
  have HB := Lib.hid hb
  clear hb
  go_wp2
  go_ret
  exact ⟨rfl, HB.out⟩
set_option maxRecDepth 100000 in
theorem maybe_low {P : Nat} (h1 : (FloatKind.f64.format.order P 14010698440749613056 == some .gt || FloatKind.f64.format.order P 14010698440749613056 == some .eq) = false) : MayB P false := by
  intro w
  go_enter Try.func26, Try.ntmps26
  go_wp2
  go_ret
  exact ⟨rfl, by go_grown⟩
set_option maxRecDepth 100000 in
theorem maybe_high {P : Nat} (h1 : (FloatKind.f64.format.order P 14010698440749613056 == some .gt || FloatKind.f64.format.order P 14010698440749613056 == some .eq) = true)
    (h2 : (FloatKind.f64.format.order P 4787326403894837248 == some .lt || FloatKind.f64.format.order P 4787326403894837248 == some .eq) = false) : MayB P false := by
  intro w
  go_enter Try.func26, Try.ntmps26
  go_wp2
  go_ret
  exact ⟨rfl, by go_grown⟩
theorem maybe_yes {n : Int} {P : Nat} (hn : n.natAbs ≤ 1099511627776) (hz : ZW n P) : MayB P true := by
  have hg := hz.geq (zw_zF (n := -1099511627776) (by decide))
  have hl := hz.leq (zw_zF (n := 1099511627776) (by decide))
  rw [far_lo, decide_eq_true (by omega)] at hg
  rw [far_hi, decide_eq_true (by omega)] at hl
  have hz' := hz
  obtain ⟨s, rfl, hf⟩ := hz'
  obtain ⟨D, hD, ht⟩ := run_trunc hf Inhabited.default
  rw [show n.tdiv (2 ^ 0) = n from by rw [Int.pow_zero, Int.tdiv_one]] at hD
  exact maybe_two hg hl ht (by rw [hz.eq hD]; exact decide_eq_true rfl)
theorem maybe_no {P : Nat} (hb : Bad P) : MayB P false := by
  rcases hb with ⟨s, hs⟩ | ⟨n, hn, h8, hn1, hn2⟩
  · have hg := hs.geq (zw_zF (n := -1099511627776) (by decide)) (by decide)
    have hl := hs.leq (zw_zF (n := 1099511627776) (by decide)) (by decide)
    rw [far_lo] at hg
    rw [far_hi] at hl
    cases s
    · exact maybe_high hg hl
    · exact maybe_low hg
  · have hg := hn.geq (zw_zF (n := -1099511627776) (by decide)) (by decide)
    have hl := hn.leq (zw_zF (n := 1099511627776) (by decide)) (by decide)
    rw [far_lo, decide_eq_true (by omega)] at hg
    rw [far_hi] at hl
    by_cases hc : n ≤ 8796093022208
    · rw [decide_eq_true (by omega)] at hl
      have ht : (n.tdiv 8).natAbs ≤ 1099511627776 := by
        have hm := Int.mul_tdiv_add_tmod n 8
        rcases Int.lt_or_le n 0 with h | h
        · have e : n = -(-n) := by omega
          rw [e, Int.neg_tdiv, Int.tdiv_eq_ediv_of_nonneg (by omega)]
          omega
        · rw [Int.tdiv_eq_ediv_of_nonneg h]
          omega
      have hn' := hn
      obtain ⟨s, rfl, hf⟩ := hn'
      obtain ⟨D, hD, hr⟩ := run_trunc hf Inhabited.default
      rw [show (2 : Int) ^ 3 = 8 from by decide] at hD
      exact maybe_two hg hl hr (hn.eq hD (by omega) h8).1
    · rw [decide_eq_false (by omega)] at hl
      exact maybe_high hg hl
/-- A cell of a flag. -/
structure Flag (mb : Nat) (b : Bool) (w : World) : Prop where
  c : w.cell? ⟨mb, 0, none⟩ = some (.bool b)
  f : w.frozen? ⟨mb, 0, none⟩ = false
/-- A part, brought back: its double, and whether it may be. -/
def PartC (P V : Nat) (ok : Bool) : Prop := ∀ (mb : Nat) (b : Bool) (W : World), Flag mb b W →
  Calls Try.prog 25 #[.float .f64 P, .pointer (some ⟨mb, 0, none⟩)] W fun e w' => e = .returned (.float .f64 V) ∧ Fr (fun k => k = mb) W w' ∧ Flag mb (b && ok) w'
set_option maxRecDepth 100000 in
theorem whole1_c {n : Int} (hn : n.natAbs ≤ 1099511627776) {P : Nat} (hz : ZW n P) : PartC P (zF (backI n)) true := by
  intro mb b w hm
  have HM := Lib.hid (maybe_yes hn hz)
  have HF := Lib.hid hm
  have hc := fun W => hz.int64 W
  have hf := fun W => conv_i8 (backI n) W
  have hw := wrap8_back n
  generalize zF (backI n) = V at *
  generalize backI n = B at *
  clear hz hn hm
  go_enter Try.func25, Try.ntmps25
  go_wp2_with fail
  refine (HM.out _).mono ?_
  rintro _ u ⟨rfl, hb⟩
  have HB := Lib.hid hb
  clear hb
  go_wp2
  go_ret
  have hF := Fr.ofBelow (F := fun k => k = mb) HB.out
  have hl := klt HF.out.c
  refine ⟨rfl, hF, ⟨?_, ?_⟩⟩
  · rw [Bool.and_true]
    exact (Fr.ofBelow (F := fun _ => False) HB.out).cell HF.out.c (fun f => f)
  · exact (Fr.ofBelow (F := fun _ => False) HB.out).frozen hl HF.out.f (fun f => f)
set_option maxRecDepth 100000 in
theorem whole1_no {P : Nat} (hp : Bad P) : PartC P 0 false := by
  intro mb b w hm
  have HM := Lib.hid (maybe_no hp)
  obtain ⟨hc, hf⟩ := hm
  have hl := klt hc
  clear hp
  go_enter Try.func25, Try.ntmps25
  go_wp2_with fail
  refine (HM.out _).mono ?_
  rintro _ u ⟨rfl, hb⟩
  have hc2 := (Fr.ofBelow (F := fun _ => False) hb).cell hc (fun f => f)
  have hf2 := (Fr.ofBelow (F := fun _ => False) hb).frozen hl hf (fun f => f)
  have HB := Lib.hid hb
  have hl2 := klt hc2
  clear hb hc hf hl
  go_wp2
  go_ret
  refine ⟨rfl, (Fr.ofBelow (F := fun k => k = mb) HB.out).setCell _ _ (fun _ => rfl), ⟨?_, ?_⟩⟩
  · rw [Bool.and_false]; go_simp; first | done | rfl
  · go_simp; first | done | exact hf2
/-- A part of a number, as the law has it. -/
def Part (P : Nat) : Prop := Bad P ∨ ∃ x, ZW x P ∧ x.natAbs ≤ 1099511627776
theorem part_c {P : Nat} (h : Part P) : ∃ V ok, PartC P V ok ∧ (Bad P → ok = false) := by
  rcases Classical.em (Bad P) with hb | hb
  · exact ⟨0, false, whole1_no hb, fun _ => rfl⟩
  · rcases h with h | ⟨x, hz, hx⟩
    · exact absurd h hb
    · exact ⟨_, true, whole1_c hx hz, fun h => absurd h hb⟩
set_option maxRecDepth 100000 in
theorem whole_any {X Y V1 V2 : Nat} {o1 o2 : Bool} (h1 : PartC X V1 o1) (h2 : PartC Y V2 o2) (R I : Nat) (hR : (if o1 && o2 then V1 else 0) = R) (hI : (if o1 && o2 then V2 else 0) = I) (w : World) :
    Calls Try.prog 16 #[.complex .f64 X Y] w fun e w' => e = .returned (.complex .f64 R I) ∧ Below w.heap.size w w' := by
  have H1 := Lib.hid h1
  have H2 := Lib.hid h2
  clear h1 h2
  obtain ⟨o, ho⟩ : ∃ o, (o1 && o2) = o := ⟨_, rfl⟩
  rw [ho] at hR hI
  have HO := Lib.hid ho
  clear ho
  go_enter Try.func16, Try.ntmps16
  go_wp2_with fail
  have HA := Lib.hid (show Below w.heap.size w (w.alloc (Obj.cells #[Value.bool true] 4)) from by go_grown)
  have hm : Flag w.heap.size true (w.alloc (Obj.cells #[Value.bool true] 4)) := ⟨by go_simp; first | done | rfl, by go_simp⟩
  refine (H1.out _ _ _ hm).mono ?_
  rintro _ u ⟨rfl, hb, hm2⟩
  have HB := Lib.hid (hb.toBelow HA.out (fun b h => by rw [h]; exact Nat.le_refl _) (Nat.le_refl _))
  clear hb hm
  go_wp2_with fail
  refine (H2.out _ _ _ hm2).mono ?_
  rintro _ u2 ⟨rfl, hb, hm3⟩
  have HB2 := Lib.hid (hb.toBelow HB.out (fun b h => by rw [h]; exact Nat.le_refl _) (Nat.le_refl _))
  rw [Bool.true_and, HO.out] at hm3
  obtain ⟨hc, -⟩ := hm3
  have hl := klt hc
  clear hb hm2 HO
  cases o
  · rw [if_neg (by simp)] at hR hI
    subst hR hI
    go_wp2
    go_ret
    exact ⟨rfl, HB2.out⟩
  · rw [if_pos rfl] at hR hI
    subst hR hI
    go_wp2
    go_ret
    exact ⟨rfl, HB2.out⟩
theorem whole_c (x y : Int) (hx : x.natAbs ≤ 1099511627776) (hy : y.natAbs ≤ 1099511627776) (X Y : Nat) (zx : ZW x X) (zy : ZW y Y) (w : World) :
    Calls Try.prog 16 #[.complex .f64 X Y] w fun e w' => e = .returned (cV (backI x) (backI y)) ∧ Below w.heap.size w w' :=
  whole_any (whole1_c hx zx) (whole1_c hy zy) _ _ rfl rfl w
theorem whole_no (X Y : Nat) (hx : Part X) (hy : Part Y) (hn : Bad X ∨ Bad Y) (w : World) :
    Calls Try.prog 16 #[.complex .f64 X Y] w fun e w' => e = .returned (.complex .f64 0 0) ∧ Below w.heap.size w w' := by
  obtain ⟨V1, o1, h1, c1⟩ := part_c hx
  obtain ⟨V2, o2, h2, c2⟩ := part_c hy
  have hc : (o1 && o2) = false := by
    rcases hn with h | h
    · rw [c1 h]; rfl
    · rw [c2 h, Bool.and_false]
  exact whole_any h1 h2 0 0 (by rw [hc]; rfl) (by rw [hc]; rfl) w
end Go.Proofs.Ytkabpnchfhkhgaa
