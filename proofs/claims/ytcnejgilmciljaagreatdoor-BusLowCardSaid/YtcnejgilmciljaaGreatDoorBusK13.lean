/-
  math.Trunc of doubles that are exact: cut towards 0.
  The program's Whole.
  The program's wheel: where it lies; New, Read, At.
  What the laws lean on of the program's bus: where it lies, and what its calls answer.
-/
import Derived.Test.YtcnejgilmciljaaGreatDoorFar12
import Derived.Laws.Externs
import Derived.Test.YtcnejgilmciljaaGreatDoorGrown
import Derived.Test.YtcnejgilmciljaaGreatDoorEqArr
import Derived.Test.YtcnejgilmciljaaGreatDoorLast11
set_option linter.unusedSimpArgs false
set_option linter.unusedVariables false
namespace Go.Proofs.YtcnejgilmciljaaGreatDoor
open Go.RowKit Go.PlainAid

theorem entry_arr (x : Nat) {f : Nat → Sem Value} {g : Array Value → Sem Value} : Extern.MathFloor.toIntegral.match_2 (fun _ => Sem Value) #[.float .f64 x] f g = f x := rfl
theorem entry_num (nm : String) (way : Ieee.Toward) (x : Nat) (s m i) (h : FloatKind.f64.decode x = .number s m i) : Extern.MathFloor.toIntegral nm way #[.float .f64 x] = pure (.float .f64 (FloatKind.f64.encode (Ieee.Datum.integral way (.number s m i)))) := by
  unfold Extern.MathFloor.toIntegral
  rw [entry_arr, h]
theorem cut_pow (s : Bool) (N j k : Nat) : Ieee.Toward.zero.cut s (N * 2 ^ j) (k + j) = N / 2 ^ k := by
  have hd : ∀ N J : Nat, N * 2 ^ J / 2 ^ (k + J) = N / 2 ^ k := fun N J => by
    rw [Nat.pow_add, Nat.mul_comm (2 ^ k), ← Nat.div_div_eq_div_mul, Nat.mul_div_cancel _ (Nat.two_pow_pos _)]
  unfold Ieee.Toward.cut
  dsimp only
  by_cases hm : k + j ≤ (N * 2 ^ j).log2 + 2
  · rw [Nat.min_eq_left hm, Nat.shiftLeft_eq, Nat.one_mul, hd]
    simp
  · rw [Nat.min_eq_right (by omega), Nat.shiftLeft_eq, Nat.one_mul]
    have hlt : N * 2 ^ j < 2 ^ ((N * 2 ^ j).log2 + 1) := by
      by_cases h0 : N * 2 ^ j = 0
      · rw [h0]; exact Nat.two_pow_pos _
      · exact (Nat.log2_lt h0).1 (Nat.lt_succ_self _)
    have hle : N * 2 ^ j < 2 ^ ((N * 2 ^ j).log2 + 2) := Nat.lt_of_lt_of_le hlt (Nat.pow_le_pow_right (by omega) (by omega))
    have hle2 : N * 2 ^ j < 2 ^ (k + j) := Nat.lt_of_lt_of_le hlt (Nat.pow_le_pow_right (by omega) (by omega))
    have h1 := hd N j
    rw [Nat.div_eq_of_lt hle2] at h1
    rw [Nat.div_eq_of_lt hle, ← h1]
    simp
/-- What the cut of it is. -/
theorem tdiv_abs {s : Bool} {n : Int} (hs : n ≠ 0 → s = decide (n < 0)) (k : Nat) : n.natAbs / 2 ^ k = (n.tdiv (2 ^ k)).natAbs ∧ (n.tdiv (2 ^ k) ≠ 0 → s = decide (n.tdiv (2 ^ k) < 0)) := by
  have hp : (((2 ^ k : Nat) : Nat) : Int) = 2 ^ k := by simp
  rw [← hp]
  obtain ⟨K, hK⟩ : ∃ K, 2 ^ k = K := ⟨_, rfl⟩
  rw [hK]
  have h1 : (n.tdiv (K : Int)).natAbs = n.natAbs / K := by rw [Int.natAbs_tdiv]; rfl
  refine ⟨h1.symm, fun h => ?_⟩
  have hn : n ≠ 0 := fun e => h (by rw [e, Int.zero_tdiv])
  rw [hs hn]
  refine decide_eq_decide.2 ?_
  have key : ∀ m : Int, 0 ≤ m → 0 ≤ m.tdiv (K : Int) := fun m hm => Int.tdiv_nonneg hm (by omega)
  constructor
  · intro hlt
    have h2 := key (-n) (by omega)
    rw [Int.neg_tdiv] at h2
    omega
  · intro hlt
    rcases Int.lt_or_le n 0 with h3 | h3
    · exact h3
    · have := key n h3; omega
theorem run_trunc {s : Bool} {n : Int} {k : Nat} (h : Fine s n k) (W : World) : ∃ P, ZW (n.tdiv (2 ^ k)) P ∧ ∀ W, (callFunc 129 #[.float .f64 (fz s n k)]).run Tryz.prog W = .ok (.value (.float .f64 P)) W := by
  obtain ⟨e1, e2⟩ := tdiv_abs h.s k
  have hs : (n.tdiv (2 ^ k)).natAbs < 2 ^ 53 := by
    rw [← e1]; exact Nat.lt_of_le_of_lt (Nat.div_le_self _ _) h.n
  refine ⟨fz s (n.tdiv (2 ^ k)) 0, ⟨s, rfl, ⟨e2, hs, by omega⟩⟩, fun W => ?_⟩
  refine (run_callFunc_extern Tryz.func129 (by kernel_rfl) (by kernel_rfl) (by kernel_rfl) (e := Extern.MathFloor.toIntegral "math.archTrunc" .zero) (by kernel_rfl) _ W).trans ?_
  have hr : FloatKind.f64.decode (fz s n k) = .number s (n.natAbs * 2 ^ more n k) (-((k + more n k : Nat) : Int)) := read_fz h
  rw [entry_num _ _ _ _ _ _ hr]
  have hw : FloatKind.f64.encode (Ieee.Datum.integral .zero (.number s (n.natAbs * 2 ^ more n k) (-((k + more n k : Nat) : Int)))) = fz s (n.tdiv (2 ^ k)) 0 := by
    unfold Ieee.Datum.integral
    dsimp only
    generalize more n k = j
    have a1 : (-((k + j : Nat) : Int)).toNat = 0 := by omega
    have a2 : (-(-((k + j : Nat) : Int))).toNat = k + j := by omega
    rw [a1, a2, Nat.shiftLeft_zero, cut_pow, e1]
    rfl
  rw [hw]
  rfl
set_option maxRecDepth 100000 in
theorem trunc_c {P D : Nat} (h : ∀ W, (callFunc 129 #[.float .f64 P]).run Tryz.prog W = .ok (.value (.float .f64 D)) W) (w : World) :
    Calls Tryz.prog 128 #[.float .f64 P] w fun e w' => e = .returned (.float .f64 D) ∧ Below w.heap.size w w' := by
  go_enter Tryz.func128, Tryz.ntmps128
  go_wp2
  go_ret
  exact ⟨rfl, by go_grown⟩
end Go.Proofs.YtcnejgilmciljaaGreatDoor
set_option linter.unusedSimpArgs false
set_option linter.unusedVariables false
namespace Go.Proofs.YtcnejgilmciljaaGreatDoor
open Go.RowKit Go.PlainAid

theorem far_lo : zF (-1099511627776) = 14010698440749613056 := by decide +kernel
theorem far_hi : zF 1099511627776 = 4787326403894837248 := by decide +kernel
theorem conv_i8 (n : Int) (W : World) : (convert 157 147 (.int .i8 n)).run Tryz.prog W = .ok (.float .f64 (zF n)) W := by
  rw [← zF_of]
  exact run_convert_int_float W 157 147 .i8 .f64 n (by kernel_rfl) (by kernel_rfl)
theorem ZW.int64 {n : Int} {P : Nat} (h : ZW n P) (W : World) : (convert 147 2 (.float .f64 P)).run Tryz.prog W = .ok (.int .i64 n) W := by
  obtain ⟨s, rfl, f⟩ := h
  refine run_convert_float_int W 147 2 .f64 .i64 _ n (by kernel_rfl) (by kernel_rfl) ?_
  have hn := f.n
  unfold floatToIntVal
  rw [fz_int f]
  dsimp only
  rw [if_pos]
  have e1 : IntKind.i64.min = -9223372036854775808 := by decide
  have e2 : IntKind.i64.max = 9223372036854775807 := by decide
  rw [e1, e2]
  rw [p53] at hn
  omega
theorem wrap8_back (n : Int) : IntKind.i8.wrap n = backI n := by
  have h : IntKind.i8.wrap n = (n + 128) % 256 - 128 := by
    simp [IntKind.wrap, IntKind.bits, IntKind.signed]; omega
  rw [h]
  unfold backI
  have hm := Int.mul_tdiv_add_tmod n 256
  have ht := tmod256 n
  by_cases h1 : n.tmod 256 < -128
  · rw [if_pos h1]; omega
  · rw [if_neg h1]
    by_cases h2 : 127 < n.tmod 256
    · rw [if_pos h2]; omega
    · rw [if_neg h2]; omega
/-- What mayBe answers. -/
def MayB (P : Nat) (b : Bool) : Prop := ∀ W, Calls Tryz.prog 127 #[.float .f64 P] W fun e w' => e = .returned (.bool b) ∧ Below W.heap.size W w'
set_option maxRecDepth 100000 in
theorem maybe_two {P D : Nat} {e : Bool} (h1 : (FloatKind.f64.format.order P 14010698440749613056 == some .gt || FloatKind.f64.format.order P 14010698440749613056 == some .eq) = true)
    (h2 : (FloatKind.f64.format.order P 4787326403894837248 == some .lt || FloatKind.f64.format.order P 4787326403894837248 == some .eq) = true)
    (ht : ∀ W, (callFunc 129 #[.float .f64 P]).run Tryz.prog W = .ok (.value (.float .f64 D)) W) (he : (FloatKind.f64.format.order P D == some .eq) = e) : MayB P e := by
  intro w
  have HT := Lib.hid (fun W => trunc_c ht W)
  clear ht
  go_enter Tryz.func127, Tryz.ntmps127
  go_wp2_with fail
  refine (HT.out _).mono ?_
  rintro _ u ⟨rfl, hb⟩
  have HB := Lib.hid hb
  clear hb
  go_wp2
  go_ret
  exact ⟨rfl, HB.out⟩
set_option maxRecDepth 100000 in
theorem maybe_low {P : Nat} (h1 : (FloatKind.f64.format.order P 14010698440749613056 == some .gt || FloatKind.f64.format.order P 14010698440749613056 == some .eq) = false) : MayB P false := by
  intro w
  go_enter Tryz.func127, Tryz.ntmps127
  go_wp2
  go_ret
  exact ⟨rfl, by go_grown⟩
set_option maxRecDepth 100000 in
theorem maybe_high {P : Nat} (h1 : (FloatKind.f64.format.order P 14010698440749613056 == some .gt || FloatKind.f64.format.order P 14010698440749613056 == some .eq) = true)
    (h2 : (FloatKind.f64.format.order P 4787326403894837248 == some .lt || FloatKind.f64.format.order P 4787326403894837248 == some .eq) = false) : MayB P false := by
  intro w
  go_enter Tryz.func127, Tryz.ntmps127
  go_wp2
  go_ret
  exact ⟨rfl, by go_grown⟩
theorem maybe_yes {n : Int} {P : Nat} (hn : n.natAbs ≤ 1099511627776) (hz : ZW n P) : MayB P true := by
  have hg := hz.geq (zw_zF (n := -1099511627776) (by decide))
  have hl := hz.leq (zw_zF (n := 1099511627776) (by decide))
  rw [far_lo, decide_eq_true (by omega)] at hg
  rw [far_hi, decide_eq_true (by omega)] at hl
  have hz' := hz
  obtain ⟨s, rfl, hf⟩ := hz'
  obtain ⟨D, hD, ht⟩ := run_trunc hf Inhabited.default
  rw [show n.tdiv (2 ^ 0) = n from by rw [Int.pow_zero, Int.tdiv_one]] at hD
  exact maybe_two hg hl ht (by rw [hz.eq hD]; exact decide_eq_true rfl)
theorem maybe_no {P : Nat} (hb : Bad P) : MayB P false := by
  rcases hb with ⟨s, hs⟩ | ⟨n, hn, h8, hn1, hn2⟩
  · have hg := hs.geq (zw_zF (n := -1099511627776) (by decide)) (by decide)
    have hl := hs.leq (zw_zF (n := 1099511627776) (by decide)) (by decide)
    rw [far_lo] at hg
    rw [far_hi] at hl
    cases s
    · exact maybe_high hg hl
    · exact maybe_low hg
  · have hg := hn.geq (zw_zF (n := -1099511627776) (by decide)) (by decide)
    have hl := hn.leq (zw_zF (n := 1099511627776) (by decide)) (by decide)
    rw [far_lo, decide_eq_true (by omega)] at hg
    rw [far_hi] at hl
    by_cases hc : n ≤ 8796093022208
    · rw [decide_eq_true (by omega)] at hl
      have ht : (n.tdiv 8).natAbs ≤ 1099511627776 := by
        have hm := Int.mul_tdiv_add_tmod n 8
        rcases Int.lt_or_le n 0 with h | h
        · have e : n = -(-n) := by omega
          rw [e, Int.neg_tdiv, Int.tdiv_eq_ediv_of_nonneg (by omega)]
          omega
        · rw [Int.tdiv_eq_ediv_of_nonneg h]
          omega
      have hn' := hn
      obtain ⟨s, rfl, hf⟩ := hn'
      obtain ⟨D, hD, hr⟩ := run_trunc hf Inhabited.default
      rw [show (2 : Int) ^ 3 = 8 from by decide] at hD
      exact maybe_two hg hl hr (hn.eq hD (by omega) h8).1
    · rw [decide_eq_false (by omega)] at hl
      exact maybe_high hg hl
/-- A cell of a flag. -/
structure Flag (mb : Nat) (b : Bool) (w : World) : Prop where
  c : w.cell? ⟨mb, 0, none⟩ = some (.bool b)
  f : w.frozen? ⟨mb, 0, none⟩ = false
/-- A part, brought back: its double, and whether it may be. -/
def PartC (P V : Nat) (ok : Bool) : Prop := ∀ (mb : Nat) (b : Bool) (W : World), Flag mb b W →
  Calls Tryz.prog 126 #[.float .f64 P, .pointer (some ⟨mb, 0, none⟩)] W fun e w' => e = .returned (.float .f64 V) ∧ Fr (fun k => k = mb) W w' ∧ Flag mb (b && ok) w'
set_option maxRecDepth 100000 in
theorem whole1_c {n : Int} (hn : n.natAbs ≤ 1099511627776) {P : Nat} (hz : ZW n P) : PartC P (zF (backI n)) true := by
  intro mb b w hm
  have HM := Lib.hid (maybe_yes hn hz)
  have HF := Lib.hid hm
  have hc := fun W => hz.int64 W
  have hf := fun W => conv_i8 (backI n) W
  have hw := wrap8_back n
  generalize zF (backI n) = V at *
  generalize backI n = B at *
  clear hz hn hm
  go_enter Tryz.func126, Tryz.ntmps126
  go_wp2_with fail
  refine (HM.out _).mono ?_
  rintro _ u ⟨rfl, hb⟩
  have HB := Lib.hid hb
  clear hb
  go_wp2
  go_ret
  have hF := Fr.ofBelow (F := fun k => k = mb) HB.out
  have hl := klt HF.out.c
  refine ⟨rfl, hF, ⟨?_, ?_⟩⟩
  · rw [Bool.and_true]
    exact (Fr.ofBelow (F := fun _ => False) HB.out).cell HF.out.c (fun f => f)
  · exact (Fr.ofBelow (F := fun _ => False) HB.out).frozen hl HF.out.f (fun f => f)
set_option maxRecDepth 100000 in
theorem whole1_no {P : Nat} (hp : Bad P) : PartC P 0 false := by
  intro mb b w hm
  have HM := Lib.hid (maybe_no hp)
  obtain ⟨hc, hf⟩ := hm
  have hl := klt hc
  clear hp
  go_enter Tryz.func126, Tryz.ntmps126
  go_wp2_with fail
  refine (HM.out _).mono ?_
  rintro _ u ⟨rfl, hb⟩
  have hc2 := (Fr.ofBelow (F := fun _ => False) hb).cell hc (fun f => f)
  have hf2 := (Fr.ofBelow (F := fun _ => False) hb).frozen hl hf (fun f => f)
  have HB := Lib.hid hb
  have hl2 := klt hc2
  clear hb hc hf hl
  go_wp2
  go_ret
  refine ⟨rfl, (Fr.ofBelow (F := fun k => k = mb) HB.out).setCell _ _ (fun _ => rfl), ⟨?_, ?_⟩⟩
  · rw [Bool.and_false]; go_simp; first | done | rfl
  · go_simp; first | done | exact hf2
/-- A part of a number, as the law has it. -/
def Part (P : Nat) : Prop := Bad P ∨ ∃ x, ZW x P ∧ x.natAbs ≤ 1099511627776
theorem part_c {P : Nat} (h : Part P) : ∃ V ok, PartC P V ok ∧ (Bad P → ok = false) := by
  rcases Classical.em (Bad P) with hb | hb
  · exact ⟨0, false, whole1_no hb, fun _ => rfl⟩
  · rcases h with h | ⟨x, hz, hx⟩
    · exact absurd h hb
    · exact ⟨_, true, whole1_c hx hz, fun h => absurd h hb⟩
set_option maxRecDepth 100000 in
theorem whole_any {X Y V1 V2 : Nat} {o1 o2 : Bool} (h1 : PartC X V1 o1) (h2 : PartC Y V2 o2) (R I : Nat) (hR : (if o1 && o2 then V1 else 0) = R) (hI : (if o1 && o2 then V2 else 0) = I) (w : World) :
    Calls Tryz.prog 125 #[.complex .f64 X Y] w fun e w' => e = .returned (.complex .f64 R I) ∧ Below w.heap.size w w' := by
  have H1 := Lib.hid h1
  have H2 := Lib.hid h2
  clear h1 h2
  obtain ⟨o, ho⟩ : ∃ o, (o1 && o2) = o := ⟨_, rfl⟩
  rw [ho] at hR hI
  have HO := Lib.hid ho
  clear ho
  go_enter Tryz.func125, Tryz.ntmps125
  go_wp2_with fail
  have HA := Lib.hid (show Below w.heap.size w (w.alloc (Obj.cells #[Value.bool true] 4)) from by go_grown)
  have hm : Flag w.heap.size true (w.alloc (Obj.cells #[Value.bool true] 4)) := ⟨by go_simp; first | done | rfl, by go_simp⟩
  refine (H1.out _ _ _ hm).mono ?_
  rintro _ u ⟨rfl, hb, hm2⟩
  have HB := Lib.hid (hb.toBelow HA.out (fun b h => by rw [h]; exact Nat.le_refl _) (Nat.le_refl _))
  clear hb hm
  go_wp2_with fail
  refine (H2.out _ _ _ hm2).mono ?_
  rintro _ u2 ⟨rfl, hb, hm3⟩
  have HB2 := Lib.hid (hb.toBelow HB.out (fun b h => by rw [h]; exact Nat.le_refl _) (Nat.le_refl _))
  rw [Bool.true_and, HO.out] at hm3
  obtain ⟨hc, -⟩ := hm3
  have hl := klt hc
  clear hb hm2 HO
  cases o
  · rw [if_neg (by simp)] at hR hI
    subst hR hI
    go_wp2
    go_ret
    exact ⟨rfl, HB2.out⟩
  · rw [if_pos rfl] at hR hI
    subst hR hI
    go_wp2
    go_ret
    exact ⟨rfl, HB2.out⟩
theorem whole_c (x y : Int) (hx : x.natAbs ≤ 1099511627776) (hy : y.natAbs ≤ 1099511627776) (X Y : Nat) (zx : ZW x X) (zy : ZW y Y) (w : World) :
    Calls Tryz.prog 125 #[.complex .f64 X Y] w fun e w' => e = .returned (cV (backI x) (backI y)) ∧ Below w.heap.size w w' :=
  whole_any (whole1_c hx zx) (whole1_c hy zy) _ _ rfl rfl w
theorem whole_no (X Y : Nat) (hx : Part X) (hy : Part Y) (hn : Bad X ∨ Bad Y) (w : World) :
    Calls Tryz.prog 125 #[.complex .f64 X Y] w fun e w' => e = .returned (.complex .f64 0 0) ∧ Below w.heap.size w w' := by
  obtain ⟨V1, o1, h1, c1⟩ := part_c hx
  obtain ⟨V2, o2, h2, c2⟩ := part_c hy
  have hc : (o1 && o2) = false := by
    rcases hn with h | h
    · rw [c1 h]; rfl
    · rw [c2 h, Bool.and_false]
  exact whole_any h1 h2 0 0 (by rw [hc]; rfl) (by rw [hc]; rfl) w
end Go.Proofs.YtcnejgilmciljaaGreatDoor
set_option linter.unusedSimpArgs false
set_option linter.unusedVariables false
namespace Go.Proofs.YtcnejgilmciljaaGreatDoor
open Go.RowKit Go.PlainAid

structure Pw (wb : Nat) (R : Wh) (w : World) : Prop where
  c0 : w.cell? ⟨wb, 0, none⟩ = some (cV R.x R.y)
  c1 : w.cell? ⟨wb, 1, none⟩ = some (cV (waysX R.q) (waysY R.q))
  c2 : w.cell? ⟨wb, 2, none⟩ = some (.int .u8 R.b)
  f : ∀ i, i < 3 → w.frozen? ⟨wb, i, none⟩ = false
theorem Pw.fr {wb : Nat} {R : Wh} {w u : World} {H : Nat → Prop} (h : Pw wb R w) (hf : Fr H w u) (hn : ¬ H wb) : Pw wb R u :=
  ⟨hf.cell h.c0 hn, hf.cell h.c1 hn, hf.cell h.c2 hn, fun i hi => hf.frozen (klt h.c0) (h.f i hi) hn⟩
theorem Pw.below {wb : Nat} {R : Wh} {w u : World} (h : Pw wb R w) (hb : Below w.heap.size w u) : Pw wb R u := h.fr (Fr.ofBelow (F := fun _ => False) hb) (fun f => f)
theorem Pw.lt {wb : Nat} {R : Wh} {w : World} (h : Pw wb R w) : wb < w.heap.size := klt h.c0
theorem Rh.lt {rb : Nat} {R : Wh} {w : World} (h : Rh rb R w) : rb < w.heap.size := klt h.c0
def wh0 : Wh := ⟨0, 0, 0, 0⟩
theorem wh0_may : wh0.May := ⟨by decide, by decide, by decide, by decide⟩
def rdW (R : Wh) (reg : Int) : Int := if reg = 0 then R.b else if reg = 1 then R.x % 256 else if reg = 2 then R.y % 256 else 0
def rdE (reg : Int) : Int := if 0 ≤ reg ∧ reg ≤ 2 then 0 else 10
def rdV (R : Wh) (reg : Int) : Value := .tuple #[.agg #[.int .u8 (rdW R reg), .int .u8 0], .int .i64 (rdE reg)]
theorem reg12_cases (reg : Int) : reg = 0 ∨ reg = 1 ∨ reg = 2 ∨ (reg ≠ 0 ∧ reg ≠ 1 ∧ reg ≠ 2) := by omega
set_option maxRecDepth 100000 in
theorem wnew_c (w : World) : Calls Tryz.prog 37 #[] w fun e w' => ∃ wb, e = .returned (.pointer (some ⟨wb, 0, none⟩)) ∧ Pw wb wh0 w' ∧ w.heap.size ≤ wb ∧ Below w.heap.size w w' := by
  have e0 : cV wh0.x wh0.y = .complex .f64 0 0 := by unfold cV; rw [show wh0.x = 0 from rfl, show wh0.y = 0 from rfl, zF_zero]
  have e1 : cV (waysX wh0.q) (waysY wh0.q) = .complex .f64 4607182418800017408 0 := by unfold cV; rw [show waysX wh0.q = 1 from rfl, show waysY wh0.q = 0 from rfl, zF_zero, zF_one]
  go_enter Tryz.func37, Tryz.ntmps37
  go_wp2
  go_ret
  refine ⟨_, rfl, ⟨by rw [e0]; go_simp; first | done | rfl, by rw [e1]; go_simp; first | done | rfl, by go_simp; first | done | rfl, fun i hi => by go_simp⟩, Nat.le_refl _, by go_grown⟩
theorem conv_to_i8 {n : Int} (h : -128 ≤ n ∧ n ≤ 127) (W : World) : (convert 147 157 (.float .f64 (zF n))).run Tryz.prog W = .ok (.int .i8 n) W := by
  refine run_convert_float_int W 147 157 .f64 .i8 _ n (by kernel_rfl) (by kernel_rfl) ?_
  unfold floatToIntVal zF
  rw [fz_int (zF_fine (by rw [p53]; omega))]
  dsimp only
  rw [if_pos]
  have e1 : IntKind.i8.min = -128 := by decide
  have e2 : IntKind.i8.max = 127 := by decide
  rw [e1, e2]
  exact h
set_option maxRecDepth 100000 in
theorem bits_c {n : Int} (h : -128 ≤ n ∧ n ≤ 127) (w : World) : Calls Tryz.prog 84 #[.float .f64 (zF n)] w fun e w' => e = .returned (.int .u8 (n % 256)) ∧ Below w.heap.size w w' := by
  have hc := fun W => conv_to_i8 h W
  generalize zF n = P at *
  go_enter Tryz.func84, Tryz.ntmps84
  go_wp2
  go_ret
  exact ⟨rfl, by go_grown⟩
set_option maxRecDepth 100000 in
theorem wread_nil (reg : Int) (w : World) : Calls Tryz.prog 59 #[.pointer none, .int .i64 reg] w fun e w' => e = .returned (.tuple #[.agg #[.int .u8 0, .int .u8 0], .int .i64 2]) ∧ Below w.heap.size w w' := by
  go_enter Tryz.func59, Tryz.ntmps59
  go_wp2
  refine bodyPost_ret (v := .tuple #[.agg #[.int .u8 0, .int .u8 0], .int .i64 2]) (by simp [results, Tryz.results59, go_sem] <;> first | done | rfl) rfl ?_
  exact ⟨rfl, by go_grown⟩
set_option maxRecDepth 100000 in
set_option maxHeartbeats 1000000 in
theorem wread_c (wb : Nat) (R : Wh) (hR : R.May) (reg : Int) (w : World) (h : Pw wb R w) :
    Calls Tryz.prog 59 #[.pointer (some ⟨wb, 0, none⟩), .int .i64 reg] w fun e w' => e = .returned (rdV R reg) ∧ Below w.heap.size w w' := by
  obtain ⟨c0, c1, c2, -⟩ := h
  have hlt := klt c0
  obtain ⟨q1, q2, q3, q4, q5⟩ := ap0 hlt
  have HX := Lib.hid (fun W => bits_c hR.x W)
  have HY := Lib.hid (fun W => bits_c hR.y W)
  unfold cV at c0 c1
  unfold rdV rdW rdE
  obtain ⟨rx, ry, rq, rb⟩ := R
  dsimp only at *
  generalize zF rx = X at *
  generalize zF ry = Y at *
  generalize zF (waysX rq) = A at *
  generalize zF (waysY rq) = B at *
  clear hR
  rcases reg12_cases reg with rfl | rfl | rfl | ⟨n0, n1, n2⟩
  · go_enter Tryz.func59, Tryz.ntmps59
    go_wp2
    refine bodyPost_ret (v := .tuple #[.agg #[.int .u8 rb, .int .u8 0], .int .i64 0]) (by simp [results, Tryz.results59, go_sem] <;> first | done | rfl) rfl ?_
    exact ⟨rfl, by go_grown⟩
  · go_enter Tryz.func59, Tryz.ntmps59
    go_wp2_with fail
    have HA := Lib.hid (show Below w.heap.size w (w.alloc (Obj.cells #[Value.int .u8 0, Value.int .u8 0] 49)) from by go_grown)
    refine (HX.out _).mono ?_
    rintro _ u ⟨rfl, hb⟩
    have hz := hb.size
    have l0 : w.heap.size < u.heap.size := by (simp at hz); omega
    have g0 : u.frozen? ⟨w.heap.size, 0, none⟩ = false := by rw [(bcell hb).2 _ _ (by simp)]; go_simp
    have g1 : u.frozen? ⟨w.heap.size, 1, none⟩ = false := by rw [(bcell hb).2 _ _ (by simp)]; go_simp
    have k0 : u.cell? ⟨w.heap.size, 0, none⟩ = some (.int .u8 0) := by rw [(bcell hb).1 _ _ (by simp)]; go_simp; first | done | rfl
    have k1 : u.cell? ⟨w.heap.size, 1, none⟩ = some (.int .u8 0) := by rw [(bcell hb).1 _ _ (by simp)]; go_simp; first | done | rfl
    have HB := Lib.hid (Below.trans HA.out (hb.mono (by simp)))
    clear hb hz
    go_wp2
    refine bodyPost_ret (v := .tuple #[.agg #[.int .u8 (rx % 256), .int .u8 0], .int .i64 0]) (by simp [results, Tryz.results59, go_sem, k0, k1] <;> first | done | rfl) rfl ?_
    exact ⟨rfl, Below.trans HB.out (by go_grown)⟩
  · go_enter Tryz.func59, Tryz.ntmps59
    go_wp2_with fail
    have HA := Lib.hid (show Below w.heap.size w (w.alloc (Obj.cells #[Value.int .u8 0, Value.int .u8 0] 49)) from by go_grown)
    refine (HY.out _).mono ?_
    rintro _ u ⟨rfl, hb⟩
    have hz := hb.size
    have l0 : w.heap.size < u.heap.size := by (simp at hz); omega
    have g0 : u.frozen? ⟨w.heap.size, 0, none⟩ = false := by rw [(bcell hb).2 _ _ (by simp)]; go_simp
    have g1 : u.frozen? ⟨w.heap.size, 1, none⟩ = false := by rw [(bcell hb).2 _ _ (by simp)]; go_simp
    have k0 : u.cell? ⟨w.heap.size, 0, none⟩ = some (.int .u8 0) := by rw [(bcell hb).1 _ _ (by simp)]; go_simp; first | done | rfl
    have k1 : u.cell? ⟨w.heap.size, 1, none⟩ = some (.int .u8 0) := by rw [(bcell hb).1 _ _ (by simp)]; go_simp; first | done | rfl
    have HB := Lib.hid (Below.trans HA.out (hb.mono (by simp)))
    clear hb hz
    go_wp2
    refine bodyPost_ret (v := .tuple #[.agg #[.int .u8 (ry % 256), .int .u8 0], .int .i64 0]) (by simp [results, Tryz.results59, go_sem, k0, k1] <;> first | done | rfl) rfl ?_
    exact ⟨rfl, Below.trans HB.out (by go_grown)⟩
  · have d0 : (reg == 0) = false := by simpa using n0
    have d1 : (reg == 1) = false := by simpa using n1
    have d2 : (reg == 2) = false := by simpa using n2
    rw [if_neg n0, if_neg n1, if_neg n2, if_neg (by omega)]
    clear n0 n1 n2
    go_enter Tryz.func59, Tryz.ntmps59
    go_wp2
    refine bodyPost_ret (v := .tuple #[.agg #[.int .u8 0, .int .u8 0], .int .i64 10]) (by simp [results, Tryz.results59, go_sem] <;> first | done | rfl) rfl ?_
    exact ⟨rfl, by go_grown⟩
end Go.Proofs.YtcnejgilmciljaaGreatDoor
set_option linter.unusedSimpArgs false
set_option linter.unusedVariables false
namespace Go.Proofs.YtcnejgilmciljaaGreatDoor
open Go.RowKit Go.PlainAid

def i64I (a : Int) : Prop := -9223372036854775808 ≤ a ∧ a ≤ 9223372036854775807
def tmVal (T : Tm) : Value := .agg #[.int .i64 T.l, .int .i64 T.c, .bool T.r, .bool T.a, .bool T.s, .bool T.g]
/-- A new thing, all of whose blocks are new. -/
def NewT (T : Nat → Thing) (pack : Value → Value) (w : World) : Ending → World → Prop := fun e w' => ∃ b F G, e = .returned (pack (.pointer (some ⟨b, 0, none⟩))) ∧ T b F G w' ∧ (∀ k, G k → w.heap.size ≤ k) ∧ w.heap.size ≤ b ∧ Below w.heap.size w w'
structure BusK (BO : Nat → Bs → Thing) : Prop where
  frm : ∀ bb B, Frm (BO bb B)
  new : ∀ (mb mbb pb wb : Nat) (M : Int → Int × Int) (T : Tm) (S : Po) (W : Wh) (F G : Nat → Prop) (w : World), Pm mb mbb w M → T.May → Fit S → PO pb S F G w → W.May → Pw wb W w →
    Calls Tryz.prog 36 #[.pointer (some ⟨mb, 0, none⟩), tmVal T, .pointer (some ⟨pb, 0, none⟩), .pointer (some ⟨wb, 0, none⟩)] w (NewT (fun b => BO b ⟨M, T, S, W, 0⟩) okV w)
  newBad : ∀ (p q r : Addr) (T : Tm) (w : World), ¬ T.May → Calls Tryz.prog 36 #[.pointer (some p), tmVal T, .pointer (some q), .pointer (some r)] w fun e w' => e = .returned (.tuple #[.pointer none, .int .i64 10]) ∧ Below w.heap.size w w'
  newNil : ∀ (p q r : Option Addr) (T : Tm) (w : World), p = none ∨ q = none ∨ r = none → Calls Tryz.prog 36 #[.pointer p, tmVal T, .pointer q, .pointer r] w fun e w' => e = .returned (.tuple #[.pointer none, .int .i64 2]) ∧ Below w.heap.size w w'
  read : ∀ (bb : Nat) (B : Bs) (F G : Nat → Prop) (a : Int) (w : World), i64I a → B.May → Laid w → BO bb B F G w →
    Calls Tryz.prog 13 #[.pointer (some ⟨bb, 0, none⟩), .int .i64 a] w (TEnd (BO bb (rdQ B a)) F G (rdBV (rdB (memV B.M) B.T B.S B.W a)) w)
  write : ∀ (bb : Nat) (B : Bs) (F G : Nat → Prop) (a v t : Int) (w : World), i64I a → B.May → (0 ≤ v ∧ v ≤ 255) → (0 ≤ t ∧ t ≤ 255) → Laid w → BO bb B F G w →
    Calls Tryz.prog 11 #[.pointer (some ⟨bb, 0, none⟩), .int .i64 a, .agg #[.int .u8 v, .int .u8 t]] w (TEnd (BO bb (wrQ B a v t)) F G (wrBV (wrB B.S a t)) w)
  cycles : ∀ (bb : Nat) (B : Bs) (F G : Nat → Prop) (w : World), BO bb B F G w → Calls Tryz.prog 23 #[.pointer (some ⟨bb, 0, none⟩)] w fun e w' => e = .returned (.int .i64 B.n) ∧ Below w.heap.size w w'
  irq : ∀ (bb : Nat) (B : Bs) (F G : Nat → Prop) (w : World), BO bb B F G w → Calls Tryz.prog 54 #[.pointer (some ⟨bb, 0, none⟩)] w fun e w' => e = .returned (.bool (B.T.g && B.T.s)) ∧ Below w.heap.size w w'
  timer : ∀ (bb : Nat) (B : Bs) (F G : Nat → Prop) (w : World), BO bb B F G w → Calls Tryz.prog 53 #[.pointer (some ⟨bb, 0, none⟩)] w fun e w' => e = .returned (tmVal B.T) ∧ Below w.heap.size w w'
  memory : ∀ (bb : Nat) (B : Bs) (F G : Nat → Prop) (w : World), BO bb B F G w → Calls Tryz.prog 21 #[.pointer (some ⟨bb, 0, none⟩)] w fun e w' => ∃ mb mbb, e = .returned (.pointer (some ⟨mb, 0, none⟩)) ∧ Pm mb mbb w' B.M ∧ w.heap.size ≤ mb ∧ w.heap.size ≤ mbb ∧ Below w.heap.size w w'
  ports : ∀ (bb : Nat) (B : Bs) (F G : Nat → Prop) (w : World), Fit B.S → BO bb B F G w → Calls Tryz.prog 29 #[.pointer (some ⟨bb, 0, none⟩)] w (NewT (fun b => PO b B.S) (fun v => v) w)
  wheel : ∀ (bb : Nat) (B : Bs) (F G : Nat → Prop) (w : World), BO bb B F G w → Calls Tryz.prog 52 #[.pointer (some ⟨bb, 0, none⟩)] w fun e w' => ∃ wb, e = .returned (.pointer (some ⟨wb, 0, none⟩)) ∧ Pw wb B.W w' ∧ w.heap.size ≤ wb ∧ Below w.heap.size w w'
end Go.Proofs.YtcnejgilmciljaaGreatDoor
