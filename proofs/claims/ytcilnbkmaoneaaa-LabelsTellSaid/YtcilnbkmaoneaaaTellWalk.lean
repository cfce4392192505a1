/-
  LabelsTell: its walk.
-/
import Derived.Test.YtcilnbkmaoneaaaBitsr9
import Derived.Test.YtcilnbkmaoneaaaPolt9
import Derived.Test.YtcilnbkmaoneaaaSame
import Derived.Test.YtcilnbkmaoneaaaB8
set_option linter.unusedSimpArgs false
set_option linter.unusedVariables false
namespace Go.Proofs.Ytcilnbkmaoneaaa
open Go.RowKit Go.PlainAid

theorem and_comm9 (x y : Int) (hx : 0 ≤ x ∧ x ≤ 255) (hy : 0 ≤ y ∧ y ≤ 255) : bits .and .u8 x y = bits .and .u8 y x := by
  obtain ⟨a, rfl⟩ := u8_of x hx.1 (by have := hx.2; omega)
  obtain ⟨b, rfl⟩ := u8_of y hy.1 (by have := hy.2; omega)
  rw [u8_and, u8_and, BitVec.and_comm]
/-- A call that answers a policy; one that answers true. -/
def kPo (P : Pol) : KdR := .any undef (fun _ => True) (fun x w => HoldsP w x.v P)
theorem kPo_fine (P : Pol) : (kPo P).Fine := ⟨trivial, fun x W w1 h hb => h.below hb, fun _ _ _ => trivial⟩
def kTr : KdR := .any (.bool true) (fun v => v = .bool true) (fun x _ => x.v = .bool true)
theorem kTr_fine : kTr.Fine := ⟨rfl, fun x W w1 h hb => h, fun _ _ h => h⟩
theorem same_sorted (P : Pol) : decide (sortP (sortP P) = sortP P) = true := by rw [sortP_idem]; simp
set_option maxRecDepth 100000 in
set_option maxHeartbeats 8000000 in
theorem tell_walk (P : Pol) (hb8 : Bits P) (v : Value) (a : Int) (hi : -9223372036854775808 ≤ a ∧ a ≤ 9223372036854775807) (bv bt : Int) (hbt : 0 ≤ bt ∧ bt ≤ 255) (w : World) (hv : HoldsP w v P) :
    Calls Try.prog 3 #[v, .int .i64 a, .agg #[.int .u8 bv, .int .u8 bt]] w fun e w' => e = .returned (.bool true) ∧ Below w.heap.size w w' := by
  have HFW := Lib.hid (fun W (hb : Below w.heap.size w W) => few7_c P v W (hv.below hb))
  have HV := Lib.hid hv
  obtain ⟨v1, v2, rfl, h1, h2⟩ := hv
  by_cases hF : P.s.length ≤ 80 ∧ P.k.length ≤ 80
  case neg =>
    have e : (decide (P.s.length ≤ 80) && decide (P.k.length ≤ 80)) = false := by
      cases hh : (decide (P.s.length ≤ 80) && decide (P.k.length ≤ 80))
      · rfl
      · simp only [Bool.and_eq_true, decide_eq_true_eq] at hh; exact absurd hh hF
    rw [e] at HFW
    clear h1 h2 hF e hi
    go_enter Try.func3, Try.ntmps3
    go_wp2_with fail
    ((with_reducible refine (HFW.out _ (by go_grown)).mono ?_); rintro _ u1 ⟨rfl, hb⟩)
    have T : CC u1 w.heap.size 0 1 (v1) (v2) ∧ CC u1 w.heap.size 2 3 (.int .i64 P.d) (.int .i64 P.t) := by
        refine ⟨⟨?_, ?_⟩, ⟨?_, ?_⟩⟩ <;> refine kc hb ?_ <;> (go_simp; first | done | rfl)
    have hz := hb.size
    (try simp only [World.size_alloc, World.size_setCell, World.size_drew] at hz)
    have L : w.heap.size < u1.heap.size := by omega
    have hB' : Below w.heap.size w u1 := by
        refine kb ?_ hb
        go_grown
    clear hb hz
    obtain ⟨⟨hp_0, hp_1⟩, ⟨hp_2, hp_3⟩⟩ := T
    have hlp := L; clear L
    obtain ⟨hnp0, hnp1, hkp1, hnp2, hkp2⟩ := ap0 hlp
    have hB := hB'; clear hB'
    have hsz := hB.size
    go_wp2_with fail
    ((with_reducible refine (awake9_c _).mono ?_); rintro _ u2 ⟨rfl, hb⟩)
    have T : CC u2 w.heap.size 0 1 (v1) (v2) ∧ CC u2 w.heap.size 2 3 (.int .i64 P.d) (.int .i64 P.t) := by
        refine ⟨⟨?_, ?_⟩, ⟨?_, ?_⟩⟩ <;> refine kc hb ?_ <;> (go_simp; first | done | rfl)
    have hz := hb.size
    (try simp only [World.size_alloc, World.size_setCell, World.size_drew] at hz)
    have L : w.heap.size < u2.heap.size := by omega
    have hB' : Below w.heap.size w u2 := by
        refine kb ?_ hb
        go_grown
    clear hp_0 hp_1 hp_2 hp_3 hlp hnp0 hnp1 hkp1 hnp2 hkp2 hB hsz
    clear hb hz
    obtain ⟨⟨hp_0, hp_1⟩, ⟨hp_2, hp_3⟩⟩ := T
    have hlp := L; clear L
    obtain ⟨hnp0, hnp1, hkp1, hnp2, hkp2⟩ := ap0 hlp
    have hB := hB'; clear hB'
    have hsz := hB.size
    go_wp2
    go_ret
    exact ⟨rfl, hB⟩
  case pos =>
    have e : (decide (P.s.length ≤ 80) && decide (P.k.length ≤ 80)) = true := by simp only [Bool.and_eq_true, decide_eq_true_eq]; exact hF
    rw [e] at HFW
    have hl : P.s.length ≤ 1000 ∧ P.k.length ≤ 1000 := by omega
    have HPL := Lib.hid (fun W (hb : Below w.heap.size w W) => Plain7f_c P hl hb8 _ W (HV.out.below hb))
    have HCK := Lib.hid (fun W x y (hx : HoldsD W x P.s) (hy : HoldsD W y P.k) => checkr_c P hl x y W hx hy)
    rw [← check_eq hb8] at HCK
    have HB8 := Lib.hid hb8
    have HHL := Lib.hid hl
    by_cases hc : checkM P = 0
    case neg =>
      have HNW := Lib.hid (fun W (hb : Below w.heap.size w W) => newt_bad P hl _ W (HV.out.below hb) hc)
      generalize checkM P = E at *
      have e1 : (E == 0) = false := by simpa using hc
      have e2 : (E != 0) = true := by simp [bne, e1]
      clear h1 h2 hF e hi hl hb8 hc
      go_enter Try.func3, Try.ntmps3
      go_wp2_with fail
      ((with_reducible refine (HFW.out _ (by go_grown)).mono ?_); rintro _ u1 ⟨rfl, hb⟩)
      have T : CC u1 w.heap.size 0 1 (v1) (v2) ∧ CC u1 w.heap.size 2 3 (.int .i64 P.d) (.int .i64 P.t) := by
          refine ⟨⟨?_, ?_⟩, ⟨?_, ?_⟩⟩ <;> refine kc hb ?_ <;> (go_simp; first | done | rfl)
      have hz := hb.size
      (try simp only [World.size_alloc, World.size_setCell, World.size_drew] at hz)
      have L : w.heap.size < u1.heap.size := by omega
      have hB' : Below w.heap.size w u1 := by
          refine kb ?_ hb
          go_grown
      clear hb hz
      obtain ⟨⟨hp_0, hp_1⟩, ⟨hp_2, hp_3⟩⟩ := T
      have hlp := L; clear L
      obtain ⟨hnp0, hnp1, hkp1, hnp2, hkp2⟩ := ap0 hlp
      have hB := hB'; clear hB'
      have hsz := hB.size
      go_wp2_with fail
      ((with_reducible refine (HNW.out _ hB).mono ?_); rintro _ u2 ⟨rfl, hb⟩)
      have T : CC u2 w.heap.size 0 1 (v1) (v2) ∧ CC u2 w.heap.size 2 3 (.int .i64 P.d) (.int .i64 P.t) := by
          refine ⟨⟨?_, ?_⟩, ⟨?_, ?_⟩⟩ <;> refine kc hb ?_ <;> (go_simp; first | done | rfl)
      have hz := hb.size
      (try simp only [World.size_alloc, World.size_setCell, World.size_drew] at hz)
      have L : w.heap.size < u2.heap.size := by omega
      have hB' : Below w.heap.size w u2 := by
          refine kb ?_ hb
          go_grown
      clear hp_0 hp_1 hp_2 hp_3 hlp hnp0 hnp1 hkp1 hnp2 hkp2 hB hsz
      clear hb hz
      obtain ⟨⟨hp_0, hp_1⟩, ⟨hp_2, hp_3⟩⟩ := T
      have hlp := L; clear L
      obtain ⟨hnp0, hnp1, hkp1, hnp2, hkp2⟩ := ap0 hlp
      have hB := hB'; clear hB'
      have hsz := hB.size
      go_wp2_with fail
      ((with_reducible refine (HPL.out _ hB).mono ?_); rintro _ u3 ⟨x, y, rfl, hx, hy, gx, gy, hb⟩)
      have hs_u3 := Lib.hid hb
      have T : CC u3 w.heap.size 0 1 (v1) (v2) ∧ CC u3 w.heap.size 2 3 (.int .i64 P.d) (.int .i64 P.t) := by
          refine ⟨⟨?_, ?_⟩, ⟨?_, ?_⟩⟩ <;> refine kc hb ?_ <;> (go_simp; first | done | rfl)
      have hz := hb.size
      (try simp only [World.size_alloc, World.size_setCell, World.size_drew] at hz)
      have L : w.heap.size < u3.heap.size := by omega
      have hB' : Below w.heap.size w u3 := by
          refine kb ?_ hb
          go_grown
      clear hp_0 hp_1 hp_2 hp_3 hlp hnp0 hnp1 hkp1 hnp2 hkp2 hB hsz
      clear hb hz
      obtain ⟨⟨hp_0, hp_1⟩, ⟨hp_2, hp_3⟩⟩ := T
      have hlp := L; clear L
      obtain ⟨hnp0, hnp1, hkp1, hnp2, hkp2⟩ := ap0 hlp
      have hB := hB'; clear hB'
      have hsz := hB.size
      have HX := Lib.hid (And.intro hx hy)
      obtain ⟨a1, c1, rfl⟩ := hx.form
      obtain ⟨a2, c2, rfl⟩ := hy.form
      generalize P.s.length = n1 at *
      generalize P.k.length = n2 at *
      clear hx hy gx gy
      go_wp2_with fail
      ((with_reducible refine (HCK.out _ _ _ (HX.out.1.below (by go_grown)) (HX.out.2.below (by go_grown))).mono ?_); rintro _ u4 ⟨rfl, hb⟩)
      have T : CC u4 w.heap.size 0 1 (v1) (v2) ∧ CC u4 w.heap.size 2 3 (.int .i64 P.d) (.int .i64 P.t) := by
          refine ⟨⟨?_, ?_⟩, ⟨?_, ?_⟩⟩ <;> refine kc hb ?_ <;> (go_simp; first | done | rfl)
      have hz := hb.size
      (try simp only [World.size_alloc, World.size_setCell, World.size_drew] at hz)
      have L : w.heap.size < u4.heap.size := by omega
      have hB' : Below w.heap.size w u4 := by
          refine kb ?_ hb
          go_grown
      clear hp_0 hp_1 hp_2 hp_3 hlp hnp0 hnp1 hkp1 hnp2 hkp2 hB hsz
      clear hb hz
      obtain ⟨⟨hp_0, hp_1⟩, ⟨hp_2, hp_3⟩⟩ := T
      have hlp := L; clear L
      obtain ⟨hnp0, hnp1, hkp1, hnp2, hkp2⟩ := ap0 hlp
      have hB := hB'; clear hB'
      have hsz := hB.size
      go_wp2_with fail
      ((with_reducible refine (awake9_c _).mono ?_); rintro _ u5 ⟨rfl, hb⟩)
      have hz := hb.size
      (try simp only [World.size_alloc, World.size_setCell, World.size_drew] at hz)
      have hB' : Below w.heap.size w u5 := by
          refine kb ?_ hb
          go_grown
      clear hp_0 hp_1 hp_2 hp_3 hlp hnp0 hnp1 hkp1 hnp2 hkp2 hB hsz
      clear hb hz
      have hB := hB'; clear hB'
      have hsz := hB.size
      go_wp2
      go_ret
      exact ⟨rfl, hB⟩
    case pos =>
      have HNW := Lib.hid (fun W (hb : Below w.heap.size w W) => newt_good P hl _ W (HV.out.below hb) hc)
      rw [hc] at HCK
      have HKU := bits_u8 hb8.2 a
      have hcm := and_comm9 bt (bitsR P.k a) hbt HKU
      have HBI := Lib.hid (fun W x (hx : HoldsD W x P.s) => bitsr_c P.s (by omega) hb8.1 a x W hx)
      have HBK := Lib.hid (fun W x (hx : HoldsD W x P.k) => bitsr_c P.k (by omega) hb8.2 a x W hx)
      have HTS := Lib.hid (fun tb W (h : Tp tb P W) => secretp9_c hc a tb W h)
      have HTK := Lib.hid (fun tb W (h : Tp tb P W) => sinkp9_c hc a tb W h)
      have HTL := Lib.hid (fun tb W (h : Tp tb P W) => leaks9_c (some ⟨tb, 0, none⟩) (bitsR P.k a) a bv bt W (fun W' hb' => sinkp9_c hc a tb W' (h.below hb')))
      rw [hcm] at HTL
      have HTP := Lib.hid (fun tb W (h : Tp tb P W) => polt_c hl tb W h)
      have HSA := Lib.hid (fun W x (hx : HoldsP W x (sortP P)) (hb : Below w.heap.size w W) => same_c (sortP P) P (by unfold sortP; dsimp only; rw [sortS_len, sortS_len]; omega) (by omega) x _ W hx (HV.out.below hb))
      rw [same_sorted] at HSA
      generalize bitsR P.s a = SB at *
      generalize bitsR P.k a = KB at *
      clear h1 h2 hF e hi hl hb8 hc hcm HKU hbt
      go_enter Try.func3, Try.ntmps3
      go_wp2_with fail
      ((with_reducible refine (HFW.out _ (by go_grown)).mono ?_); rintro _ u1 ⟨rfl, hb⟩)
      have T : CC u1 w.heap.size 0 1 (v1) (v2) ∧ CC u1 w.heap.size 2 3 (.int .i64 P.d) (.int .i64 P.t) ∧ CC u1 (w.heap.size + 1) 0 1 (.int .u8 bv) (.int .u8 bt) := by
          refine ⟨⟨?_, ?_⟩, ⟨?_, ?_⟩, ⟨?_, ?_⟩⟩ <;> refine kc hb ?_ <;> (go_simp; first | done | rfl)
      have hz := hb.size
      (try simp only [World.size_alloc, World.size_setCell, World.size_drew] at hz)
      have L : w.heap.size < u1.heap.size ∧ w.heap.size + 1 < u1.heap.size := by omega
      have hB' : Below w.heap.size w u1 := by
          refine kb ?_ hb
          go_grown
      clear hb hz
      obtain ⟨⟨hp_0, hp_1⟩, ⟨hp_2, hp_3⟩, ⟨hb_0, hb_1⟩⟩ := T
      obtain ⟨hlp, hlb⟩ := L
      obtain ⟨hnp0, hnp1, hkp1, hnp2, hkp2⟩ := ap0 hlp
      obtain ⟨hnb0, hkb1⟩ := ap1 hlb
      have hB := hB'; clear hB'
      have hsz := hB.size
      go_wp2_with fail
      ((with_reducible refine (HNW.out _ hB).mono ?_); rintro _ u2 ⟨tb, rfl, hb, hT, htb⟩)
      have hs_u2 := Lib.hid hb
      have T : CC u2 w.heap.size 0 1 (v1) (v2) ∧ CC u2 w.heap.size 2 3 (.int .i64 P.d) (.int .i64 P.t) ∧ CC u2 (w.heap.size + 1) 0 1 (.int .u8 bv) (.int .u8 bt) := by
          refine ⟨⟨?_, ?_⟩, ⟨?_, ?_⟩, ⟨?_, ?_⟩⟩ <;> refine kc hb ?_ <;> (go_simp; first | done | rfl)
      have hz := hb.size
      (try simp only [World.size_alloc, World.size_setCell, World.size_drew] at hz)
      have L : w.heap.size < u2.heap.size ∧ w.heap.size + 1 < u2.heap.size := by omega
      have hB' : Below w.heap.size w u2 := by
          refine kb ?_ hb
          go_grown
      clear hp_0 hp_1 hp_2 hp_3 hb_0 hb_1 hlp hlb hnp0 hnp1 hkp1 hnp2 hkp2 hnb0 hkb1 hB hsz
      clear hb hz
      obtain ⟨⟨hp_0, hp_1⟩, ⟨hp_2, hp_3⟩, ⟨hb_0, hb_1⟩⟩ := T
      obtain ⟨hlp, hlb⟩ := L
      obtain ⟨hnp0, hnp1, hkp1, hnp2, hkp2⟩ := ap0 hlp
      obtain ⟨hnb0, hkb1⟩ := ap1 hlb
      have hB := hB'; clear hB'
      have hsz := hB.size
      have HT2 := Lib.hid hT
      clear hT
      go_wp2_with fail
      ((with_reducible refine (HPL.out _ hB).mono ?_); rintro _ u3 ⟨x, y, rfl, hx, hy, gx, gy, hb⟩)
      have hs_u3 := Lib.hid hb
      have T : CC u3 w.heap.size 0 1 (v1) (v2) ∧ CC u3 w.heap.size 2 3 (.int .i64 P.d) (.int .i64 P.t) ∧ CC u3 (w.heap.size + 1) 0 1 (.int .u8 bv) (.int .u8 bt) := by
          refine ⟨⟨?_, ?_⟩, ⟨?_, ?_⟩, ⟨?_, ?_⟩⟩ <;> refine kc hb ?_ <;> (go_simp; first | done | rfl)
      have hz := hb.size
      (try simp only [World.size_alloc, World.size_setCell, World.size_drew] at hz)
      have L : w.heap.size < u3.heap.size ∧ w.heap.size + 1 < u3.heap.size := by omega
      have hB' : Below w.heap.size w u3 := by
          refine kb ?_ hb
          go_grown
      clear hp_0 hp_1 hp_2 hp_3 hb_0 hb_1 hlp hlb hnp0 hnp1 hkp1 hnp2 hkp2 hnb0 hkb1 hB hsz
      clear hb hz
      obtain ⟨⟨hp_0, hp_1⟩, ⟨hp_2, hp_3⟩, ⟨hb_0, hb_1⟩⟩ := T
      obtain ⟨hlp, hlb⟩ := L
      obtain ⟨hnp0, hnp1, hkp1, hnp2, hkp2⟩ := ap0 hlp
      obtain ⟨hnb0, hkb1⟩ := ap1 hlb
      have hB := hB'; clear hB'
      have hsz := hB.size
      have HT3 := Lib.hid (HT2.out.below hs_u3.out)
      obtain ⟨a1, c1, rfl⟩ := hx.form
      obtain ⟨a2, c2, rfl⟩ := hy.form
      have HX3 := Lib.hid (And.intro hx hy)
      generalize P.s.length = n1 at *
      generalize P.k.length = n2 at *
      clear hx hy gx gy HT2
      go_wp2_with fail
      ((with_reducible refine (HCK.out _ _ _ (HX3.out.1.below (by go_grown)) (HX3.out.2.below (by go_grown))).mono ?_); rintro _ u4 ⟨rfl, hb⟩)
      have hs_u4 := Lib.hid hb
      have T : CC u4 w.heap.size 0 1 (v1) (v2) ∧ CC u4 w.heap.size 2 3 (.int .i64 P.d) (.int .i64 P.t) ∧ CC u4 (w.heap.size + 1) 0 1 (.int .u8 bv) (.int .u8 bt) ∧ CC u4 u3.heap.size 0 1 (.slice a1 n1 c1) (.slice a2 n2 c2) ∧ CC u4 u3.heap.size 2 3 (.int .i64 P.d) (.int .i64 P.t) := by
          refine ⟨⟨?_, ?_⟩, ⟨?_, ?_⟩, ⟨?_, ?_⟩, ⟨?_, ?_⟩, ⟨?_, ?_⟩⟩ <;> refine kc hb ?_ <;> (go_simp; first | done | rfl)
      have hz := hb.size
      (try simp only [World.size_alloc, World.size_setCell, World.size_drew] at hz)
      have L : w.heap.size < u4.heap.size ∧ w.heap.size + 1 < u4.heap.size ∧ u3.heap.size < u4.heap.size := by omega
      have hB' : Below w.heap.size w u4 := by
          refine kb ?_ hb
          go_grown
      clear hp_0 hp_1 hp_2 hp_3 hb_0 hb_1 hlp hlb hnp0 hnp1 hkp1 hnp2 hkp2 hnb0 hkb1 hB hsz
      clear hb hz
      obtain ⟨⟨hp_0, hp_1⟩, ⟨hp_2, hp_3⟩, ⟨hb_0, hb_1⟩, ⟨hq_0, hq_1⟩, ⟨hq_2, hq_3⟩⟩ := T
      obtain ⟨hlp, hlb, hlq⟩ := L
      obtain ⟨hnp0, hnp1, hkp1, hnp2, hkp2⟩ := ap0 hlp
      obtain ⟨hnb0, hkb1⟩ := ap1 hlb
      obtain ⟨hnq0, hnq1, hkq1, hnq2, hkq2⟩ := ap0 hlq
      have hB := hB'; clear hB'
      have hsz := hB.size
      have hba : Below u3.heap.size u3 u4 := ((Below.refl _ u3).alloc (Nat.le_refl _) _).trans (hs_u4.out.mono (by simp))
      have HT4 := Lib.hid (HT3.out.below hba)
      have HX4 := Lib.hid (And.intro (HX3.out.1.below hba) (HX3.out.2.below hba))
      clear hba HT3 HX3
      have HB4 := Lib.hid hB
      have hB4 : Below u4.heap.size u4 u4 := Below.refl _ _
      have HSA4 := Lib.hid (fun W x (hx : HoldsP W x (sortP P)) (hb : Below u4.heap.size u4 W) => HSA.out W x hx (kb HB4.out hb))
      go_upto_region 8 with fail
      refine wp_region_planR 13 (fun W => W.cell? ⟨w.heap.size, 0, none⟩ = some v1 ∧ W.cell? ⟨w.heap.size, 1, none⟩ = some v2 ∧ W.cell? ⟨w.heap.size, 2, none⟩ = some (.int .i64 P.d) ∧ W.cell? ⟨w.heap.size, 3, none⟩ = some (.int .i64 P.t) ∧ Below u4.heap.size u4 W)
        [.val (.int .i64 0), .val (.bool false), .val (.bool false), .val (.pointer (some ⟨tb, 0, none⟩)), .val (.bool false), .val (.bool false), .val (.bool false), .val (.pointer (some ⟨tb, 0, none⟩)),
          kPo (sortP P), .val (.agg #[v1, v2, .int .i64 P.d, .int .i64 P.t]), kTr, .val (.bool false), .val (.bool false)]
        (by kernel_rfl) (by kernel_rfl) (by kernel_rfl) (by kernel_rfl) (by kernel_rfl) (fun W w1 h hb => ⟨kc hb h.1, kc hb h.2.1, kc hb h.2.2.1, kc hb h.2.2.2.1, h.2.2.2.2.trans (hb.mono h.2.2.2.2.size)⟩) ?_ ?_ ?_
      · intro k hk
        simp only [List.mem_cons, List.not_mem_nil, or_false] at hk
        rcases hk with rfl | rfl | rfl | rfl | rfl | rfl | rfl | rfl | rfl | rfl | rfl | rfl | rfl <;> first | exact trivial | exact kPo_fine _ | exact kTr_fine
      · exact ⟨by go_simp, by go_simp, by go_simp, by go_simp, Below.drew hB4⟩
      (try simp only [List.append_eq, List.cons_append, List.nil_append, List.toList_toArray, List.take_succ_cons, List.take_zero, List.drop_succ_cons, List.drop_zero])
      (iterate 8 (refine PlanR.val ?_ ?_ ?_; (· rfl); (· (intro W hSw; (try dsimp only at hSw); go_simp; all_goals (first | (with_reducible rfl) | (constructor <;> (with_reducible rfl))))); intro _ _; (try simp only [Act.put, List.setIfInBounds_toArray, List.set_cons_zero, List.set_cons_succ])))
      refine PlanR.any ?_ ?_ ?_
      · rfl
      · intro W hSw _
        (try dsimp only at hSw)
        go_simp
        refine ⟨rfl, (HTP.out tb W (HT4.out.below hSw.2.2.2.2)).mono ?_⟩
        rintro _ u ⟨v', rfl, hv', hb⟩
        exact ⟨v', rfl, hb, hv'⟩
      rintro ⟨pv, lo1, hi1⟩ _
      (try simp only [Act.put, List.setIfInBounds_toArray, List.set_cons_zero, List.set_cons_succ])
      (refine PlanR.val ?_ ?_ ?_; (· rfl); (· (intro W hSw; (try dsimp only at hSw); go_simp; all_goals (first | (with_reducible rfl) | (constructor <;> (with_reducible rfl))))); intro _ _; (try simp only [Act.put, List.setIfInBounds_toArray, List.set_cons_zero, List.set_cons_succ]))
      refine PlanR.any ?_ ?_ ?_
      · rfl
      · intro W hSw hKn
        have hpv : HoldsP W pv (sortP P) := hKn 8 (by decide) (by kernel_rfl)
        (try dsimp only at hSw)
        go_simp
        refine ⟨rfl, (HSA4.out W pv hpv hSw.2.2.2.2).mono ?_⟩
        rintro _ u ⟨rfl, hb⟩
        exact ⟨_, rfl, hb, rfl⟩
      rintro ⟨_, lo2, hi2⟩ rfl
      (try simp only [Act.put, List.setIfInBounds_toArray, List.set_cons_zero, List.set_cons_succ])
      (iterate 2 (refine PlanR.val ?_ ?_ ?_; (· rfl); (· (intro W hSw; (try dsimp only at hSw); go_simp; all_goals (first | (with_reducible rfl) | (constructor <;> (with_reducible rfl))))); intro _ _; (try simp only [Act.put, List.setIfInBounds_toArray, List.set_cons_zero, List.set_cons_succ])))
      refine PlanR.done ?_
      intro u5 G
      have hB5 : Below u4.heap.size u4 u5 := G.s.2.2.2.2
      have HB5 := Lib.hid (kb HB4.out hB5)
      have HT5 := Lib.hid (HT4.out.below hB5)
      have HX5 := Lib.hid (And.intro (HX4.out.1.below hB5) (HX4.out.2.below hB5))
      have yb_0 := kc hB5 hb_0
      have yb_1 := kc hB5 hb_1
      have yq_0 := kc hB5 hq_0
      have yq_1 := kc hB5 hq_1
      have hlb : w.heap.size + 1 < u5.heap.size := klt yb_0
      have hlq : u3.heap.size < u5.heap.size := klt yq_0
      clear G hB5 hB4
      clear hb_0 hb_1 hq_0 hq_1 hp_0 hp_1 hp_2 hp_3
      have hB : Below u5.heap.size u5 u5 := Below.refl _ _
      have hsz := hB.size
      have hb_0 := yb_0
      have hb_1 := yb_1
      have hq_0 := yq_0
      have hq_1 := yq_1
      go_wp2_with fail
      ((with_reducible refine (HBK.out _ _ HX5.out.2).mono ?_); rintro _ u6 ⟨rfl, hb⟩)
      have hs_u6 := Lib.hid hb
      have T : CC u6 (w.heap.size + 1) 0 1 (.int .u8 bv) (.int .u8 bt) ∧ CC u6 u3.heap.size 0 1 (.slice a1 n1 c1) (.slice a2 n2 c2) := by
          refine ⟨⟨?_, ?_⟩, ⟨?_, ?_⟩⟩ <;> refine kc hb ?_ <;> (go_simp; first | done | rfl)
      have hz := hb.size
      (try simp only [World.size_alloc, World.size_setCell, World.size_drew] at hz)
      have L : w.heap.size + 1 < u6.heap.size ∧ u3.heap.size < u6.heap.size := by omega
      have hB' : Below u5.heap.size u5 u6 := by
          refine kb ?_ hb
          go_grown
      clear hb hz
      obtain ⟨⟨hb_0, hb_1⟩, ⟨hq_0, hq_1⟩⟩ := T
      obtain ⟨hlb, hlq⟩ := L
      obtain ⟨hnb0, hnb1, hkb1, hnb2, hkb2⟩ := ap1f hlb
      obtain ⟨hnq0, hnq1, hkq1, hnq2, hkq2⟩ := ap0 hlq
      have hB := hB'; clear hB'
      have hsz := hB.size
      go_upto_region 11 with fail
      refine wp_region_plan (fun w' => w'.cell? ⟨w.heap.size + 1, 0, none⟩ = some (.int .u8 bv) ∧ w'.cell? ⟨w.heap.size + 1, 1, none⟩ = some (.int .u8 bt) ∧ w'.cell? ⟨u3.heap.size, 0, none⟩ = some (.slice a1 n1 c1) ∧ w'.cell? ⟨u3.heap.size, 1, none⟩ = some (.slice a2 n2 c2) ∧ Below u5.heap.size u5 w') (by kernel_rfl) (by kernel_rfl) (by kernel_rfl) ?_ ?_
      · (try dsimp only)
        refine ⟨?_, ?_, ?_, ?_, ?_⟩ <;> first | (go_simp; done) | (simp [*]; done) | go_grown
      repeat (first
        | (refine Plan.val (v := ?_) ?_ ?_ ?_; rotate_left; (· rfl); (· (intro W hSw; (try dsimp only at hSw); go_simp; all_goals (first | (with_reducible rfl) | (constructor <;> (with_reducible rfl)) | (rw [if_neg (by omega)]; done) | (rw [if_neg (by omega)]; with_reducible rfl)))); (try simp only [Act.put, List.setIfInBounds_toArray, List.set_cons_zero, List.set_cons_succ]))
        | (refine Plan.no ?_ ?_; (· rfl); (try simp only [Act.put, List.setIfInBounds_toArray, List.set_cons_zero, List.set_cons_succ]))
        | (refine Plan.call (v := ?_) (f := ?_) (args := ?_) ?_ ?_ ?_ ?_; rotate_left 3; (· rfl); (· (intro W hSw; (try dsimp only at hSw); go_simp; all_goals (first | (with_reducible rfl) | (constructor <;> (with_reducible rfl)) | (rw [if_neg (by omega)]; done) | (rw [if_neg (by omega)]; with_reducible rfl)))); (· (intro W hSw; (try dsimp only at hSw); first | (go_at_call 13; ((with_reducible refine (HTS.out tb _ (HT5.out.below hSw.2.2.2.2)).mono ?_); rintro _ wz ⟨rfl, hb⟩; (refine ⟨?_, ?_⟩; (· with_reducible rfl); exact ⟨kc hb hSw.1, kc hb hSw.2.1, kc hb hSw.2.2.1, kc hb hSw.2.2.2.1, kb hSw.2.2.2.2 hb⟩))) | (go_at_call 12; ((with_reducible refine (HBI.out _ _ (HX5.out.1.below hSw.2.2.2.2)).mono ?_); rintro _ wz ⟨rfl, hb⟩; (refine ⟨?_, ?_⟩; (· with_reducible rfl); exact ⟨kc hb hSw.1, kc hb hSw.2.1, kc hb hSw.2.2.1, kc hb hSw.2.2.2.1, kb hSw.2.2.2.2 hb⟩))) | (go_at_call 14; ((with_reducible refine (HTK.out tb _ (HT5.out.below hSw.2.2.2.2)).mono ?_); rintro _ wz ⟨rfl, hb⟩; (refine ⟨?_, ?_⟩; (· with_reducible rfl); exact ⟨kc hb hSw.1, kc hb hSw.2.1, kc hb hSw.2.2.1, kc hb hSw.2.2.2.1, kb hSw.2.2.2.2 hb⟩))) | (go_at_call 15; ((with_reducible refine (HTL.out tb _ (HT5.out.below hSw.2.2.2.2)).mono ?_); rintro _ wz ⟨rfl, hb⟩; (refine ⟨?_, ?_⟩; (· with_reducible rfl); exact ⟨kc hb hSw.1, kc hb hSw.2.1, kc hb hSw.2.2.1, kc hb hSw.2.2.2.1, kb hSw.2.2.2.2 hb⟩))) | (go_at_call 6; ((with_reducible refine (awake9_c _).mono ?_); rintro _ wz ⟨rfl, hb⟩; (refine ⟨?_, ?_⟩; (· with_reducible rfl); exact ⟨kc hb hSw.1, kc hb hSw.2.1, kc hb hSw.2.2.1, kc hb hSw.2.2.2.1, kb hSw.2.2.2.2 hb⟩))))); (try simp only [Act.put, List.setIfInBounds_toArray, List.set_cons_zero, List.set_cons_succ])))
      refine Plan.done ?_
      intro u7 T
      (try dsimp only at T)
      clear hb_0 hb_1 hq_0 hq_1 hlb hlq hnb0 hnb1 hkb1 hnb2 hkb2 hnq0 hnq1 hkq1 hnq2 hkq2 hB hsz
      obtain ⟨hb_0, hb_1, hq_0, hq_1, hB⟩ := T
      have hsz := hB.size
      have hlb := klt hb_0
      have hlq := klt hq_0
      obtain ⟨hnb0, hnb1, hkb1, hnb2, hkb2⟩ := ap1f hlb
      obtain ⟨hnq0, hnq1, hkq1, hnq2, hkq2⟩ := ap0 hlq
      go_wp2
      go_ret
      exact ⟨rfl, kb HB5.out hB⟩
end Go.Proofs.Ytcilnbkmaoneaaa
