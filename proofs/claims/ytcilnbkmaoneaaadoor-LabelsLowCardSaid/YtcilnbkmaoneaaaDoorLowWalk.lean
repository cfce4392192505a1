/-
  LabelsLow: its walk.
-/
import Derived.Test.YtcilnbkmaoneaaaDoorRangeS9
import Derived.Test.YtcilnbkmaoneaaaDoorOpenD9
set_option linter.unusedSimpArgs false
set_option linter.unusedVariables false
namespace Go.Proofs.YtcilnbkmaoneaaaDoor
open Go.RowKit Go.PlainAid Go.Shelf

/-- A slice that is built of one byte. -/
def kB1 (z : Int) : KdR := .any (.slice (some ⟨0, 0, none⟩) 1 1) (fun v => ∃ b, v = .slice (some ⟨b, 0, none⟩) 1 1) (fun x w => x.v = .slice (some ⟨x.lo, 0, none⟩) 1 1 ∧ w.cell? ⟨x.lo, 0, none⟩ = some (.int .u8 z))
theorem kB1_fine (z : Int) : (kB1 z).Fine :=
  ⟨⟨0, rfl⟩, fun x W w1 h hb => ⟨h.1, kc hb h.2⟩, fun x w h => ⟨_, h.1⟩⟩
theorem one_byte_at (W : World) (T : TypeId) (z : Int) : (W.alloc (.cells #[.int .u8 z] T)).cell? ⟨W.heap.size, 0, none⟩ = some (.int .u8 z) := by
  have hh := heap_alloc_new W (.cells #[.int .u8 z] T)
  exact (cell_of_row _ _ _ _ T _ hh).trans rfl
theorem holds_byte {u : World} {B : Nat} {z : Int} (hc : u.cell? ⟨B, 0, none⟩ = some (.int .u8 z)) : HoldsB u (.slice (some ⟨B, 0, none⟩) 1 1) [z] := by
  refine .inr ⟨B, 0, 1, rfl, Nat.le_refl _, fun j x hx i v hv => ?_⟩
  cases j with
  | zero =>
    obtain rfl : z = x := by simpa using hx
    cases i with
    | zero => obtain rfl := Option.some.inj hv; simpa using hc
    | succ i => simp [byE] at hv
  | succ j => simp at hx
theorem get2t {w : World} {g o : Nat} {l : List Tn} {k : Nat} {x : Tn} (h : ∀ j (x : Tn), l[j]? = some x → ∀ i u, (tnE x)[i]? = some u → w.cell? ⟨g, o + j * 2 + i, none⟩ = some u) (hx : l[k]? = some x) :
    w.cell? ⟨g, o + k * 2, none⟩ = some (.int .i64 x.a) ∧ w.cell? ⟨g, o + k * 2 + 1, none⟩ = some (.int .u8 x.b) := ⟨h k x hx 0 _ rfl, h k x hx 1 _ rfl⟩
theorem turn_skip {M : Int → Int × Int} {x : Tn} (h : ((prM M x.a).e == 0) = false) : turnM M x = M := by
  unfold turnM
  rw [if_neg (by simpa using h)]
theorem turn_does {M : Int → Int × Int} {x : Tn} (h : ((prM M x.a).e == 0) = true) : turnM M x = (loadMp M x.a [bits .xor .u8 (prM M x.a).v x.b]).2 := by
  unfold turnM
  rw [if_pos (by simpa using h)]
/-- Up to the k-th byte that is another one, whether all that differs is secret. -/
def goodK (S : Int → Int) (M N : Int → Int × Int) (l : List Tn) (k : Nat) : Bool := (l.take k).all fun x => !badX S M N x.a
theorem goodK_snoc {S : Int → Int} {M N : Int → Int × Int} {l : List Tn} {k : Nat} (h : k < l.length) : goodK S M N l (k + 1) = (goodK S M N l k && !badX S M N l[k].a) := by
  unfold goodK
  rw [List.take_succ_eq_append_getElem h, List.all_append]
  simp
set_option maxRecDepth 100000 in
set_option maxHeartbeats 16000000 in
theorem low_walk9 (P : Pol) (hb8 : Bits P) (v : Value) (l : List Ld) (lv : Value) (tl : List Tn) (tv : Value) (w : World) (hv : HoldsP w v P) (hlv : HoldsLd w.heap.size w lv l) (hll : l.length ≤ 9223372036854775807) (hlm : ∀ x ∈ l, x.l.length ≤ 9223372036854775807) (hlb : ∀ x ∈ l, ∀ y ∈ x.l, 0 ≤ y ∧ y ≤ 255)
    (htv : HoldsTn w tv tl) (htb : ∀ x ∈ tl, By x.b) (htl : tl.length ≤ 9223372036854775807) (htg : 0 < tl.length → ∀ g, tv.ownBlock = some g → g < w.heap.size) (hL : Laid w) :
    Calls Tryd.prog 4 #[v, lv, tv] w fun e w' => e = .returned (.bool true) ∧ Below w.heap.size w w' := by
  have HFW := Lib.hid (fun W (hb : Below w.heap.size w W) => few7_c P v W (hv.below hb))
  have HFL := Lib.hid (fun W (hb : Below w.heap.size w W) => few9_c w.heap.size l hll lv W (hlv.below hb))
  have HV := Lib.hid hv
  have HLV := Lib.hid hlv
  have HTV := Lib.hid htv
  have HTB := Lib.hid htb
  have HLd := Lib.hid (fun W (hb : Below w.heap.size w W) => hL.below hb)
  have hlt0 := hL.lt
  obtain ⟨tp, tc, rfl⟩ := htv.form
  obtain ⟨nT, hnT⟩ : ∃ n, tl.length = n := ⟨_, rfl⟩
  have HNT := Lib.hid hnT
  rw [hnT] at htl HTV ⊢
  clear hL htv htb htg hnT hlm
  obtain ⟨v1, v2, rfl, h1, h2⟩ := hv
  by_cases hF : P.s.length ≤ 80 ∧ P.k.length ≤ 80
  case neg =>
    have e : (decide (P.s.length ≤ 80) && decide (P.k.length ≤ 80)) = false := by
      cases hh : (decide (P.s.length ≤ 80) && decide (P.k.length ≤ 80))
      · rfl
      · simp only [Bool.and_eq_true, decide_eq_true_eq] at hh; exact absurd hh hF
    rw [e] at HFW
    clear h1 h2 hF e hlv
    go_enter Tryd.func4, Tryd.ntmps4
    go_wp2_with fail
    ((with_reducible refine (HFW.out _ (by go_grown)).mono ?_); rintro _ u1 ⟨rfl, hb⟩)
    have T : CC u1 w.heap.size 0 1 (v1) (v2) ∧ CC u1 w.heap.size 2 3 (.int .i64 P.d) (.int .i64 P.t) := by
        refine ⟨⟨?_, ?_⟩, ⟨?_, ?_⟩⟩ <;> refine kc hb ?_ <;> (go_simp; first | done | rfl)
    have hz := hb.size
    (try simp only [World.size_alloc, World.size_setCell, World.size_drew] at hz)
    have L : w.heap.size < u1.heap.size := by omega
    have hB' : Below w.heap.size w u1 := by
        refine kb ?_ hb
        go_grown
    clear hb hz
    obtain ⟨⟨hp_0, hp_1⟩, ⟨hp_2, hp_3⟩⟩ := T
    have hlp := L; clear L
    obtain ⟨hnp0, hnp1, hkp1, hnp2, hkp2⟩ := ap0 hlp
    have hB := hB'; clear hB'
    have hsz := hB.size
    go_wp2_with fail
    ((with_reducible refine (awake9_c _).mono ?_); rintro _ u2 ⟨rfl, hb⟩)
    have T : CC u2 w.heap.size 0 1 (v1) (v2) ∧ CC u2 w.heap.size 2 3 (.int .i64 P.d) (.int .i64 P.t) := by
        refine ⟨⟨?_, ?_⟩, ⟨?_, ?_⟩⟩ <;> refine kc hb ?_ <;> (go_simp; first | done | rfl)
    have hz := hb.size
    (try simp only [World.size_alloc, World.size_setCell, World.size_drew] at hz)
    have L : w.heap.size < u2.heap.size := by omega
    have hB' : Below w.heap.size w u2 := by
        refine kb ?_ hb
        go_grown
    clear hp_0 hp_1 hp_2 hp_3 hlp hnp0 hnp1 hkp1 hnp2 hkp2 hB hsz
    clear hb hz
    obtain ⟨⟨hp_0, hp_1⟩, ⟨hp_2, hp_3⟩⟩ := T
    have hlp := L; clear L
    obtain ⟨hnp0, hnp1, hkp1, hnp2, hkp2⟩ := ap0 hlp
    have hB := hB'; clear hB'
    have hsz := hB.size
    go_wp2
    go_ret
    exact ⟨rfl, hB⟩
  case pos =>
    have e : (decide (P.s.length ≤ 80) && decide (P.k.length ≤ 80)) = true := by simp only [Bool.and_eq_true, decide_eq_true_eq]; exact hF
    rw [e] at HFW
    have hl : P.s.length ≤ 1000 ∧ P.k.length ≤ 1000 := by omega
    have HB8 := Lib.hid hb8
    clear h1 h2 hF e hlv
    cases hfl : fewL l
    · rw [hfl] at HFL
      clear hfl hl hb8
      go_enter Tryd.func4, Tryd.ntmps4
      go_wp2_with fail
      ((with_reducible refine (HFW.out _ (by go_grown)).mono ?_); rintro _ u1 ⟨rfl, hb⟩)
      have T : CC u1 w.heap.size 0 1 (v1) (v2) ∧ CC u1 w.heap.size 2 3 (.int .i64 P.d) (.int .i64 P.t) := by
          refine ⟨⟨?_, ?_⟩, ⟨?_, ?_⟩⟩ <;> refine kc hb ?_ <;> (go_simp; first | done | rfl)
      have hz := hb.size
      (try simp only [World.size_alloc, World.size_setCell, World.size_drew] at hz)
      have L : w.heap.size < u1.heap.size := by omega
      have hB' : Below w.heap.size w u1 := by
          refine kb ?_ hb
          go_grown
      clear hb hz
      obtain ⟨⟨hp_0, hp_1⟩, ⟨hp_2, hp_3⟩⟩ := T
      have hlp := L; clear L
      obtain ⟨hnp0, hnp1, hkp1, hnp2, hkp2⟩ := ap0 hlp
      have hB := hB'; clear hB'
      have hsz := hB.size
      go_wp2_with fail
      ((with_reducible refine (HFL.out _ hB).mono ?_); rintro _ u2 ⟨rfl, hb⟩)
      have T : CC u2 w.heap.size 0 1 (v1) (v2) ∧ CC u2 w.heap.size 2 3 (.int .i64 P.d) (.int .i64 P.t) := by
          refine ⟨⟨?_, ?_⟩, ⟨?_, ?_⟩⟩ <;> refine kc hb ?_ <;> (go_simp; first | done | rfl)
      have hz := hb.size
      (try simp only [World.size_alloc, World.size_setCell, World.size_drew] at hz)
      have L : w.heap.size < u2.heap.size := by omega
      have hB' : Below w.heap.size w u2 := by
          refine kb ?_ hb
          go_grown
      clear hp_0 hp_1 hp_2 hp_3 hlp hnp0 hnp1 hkp1 hnp2 hkp2 hB hsz
      clear hb hz
      obtain ⟨⟨hp_0, hp_1⟩, ⟨hp_2, hp_3⟩⟩ := T
      have hlp := L; clear L
      obtain ⟨hnp0, hnp1, hkp1, hnp2, hkp2⟩ := ap0 hlp
      have hB := hB'; clear hB'
      have hsz := hB.size
      go_wp2_with fail
      ((with_reducible refine (awake9_c _).mono ?_); rintro _ u3 ⟨rfl, hb⟩)
      have T : CC u3 w.heap.size 0 1 (v1) (v2) ∧ CC u3 w.heap.size 2 3 (.int .i64 P.d) (.int .i64 P.t) := by
          refine ⟨⟨?_, ?_⟩, ⟨?_, ?_⟩⟩ <;> refine kc hb ?_ <;> (go_simp; first | done | rfl)
      have hz := hb.size
      (try simp only [World.size_alloc, World.size_setCell, World.size_drew] at hz)
      have L : w.heap.size < u3.heap.size := by omega
      have hB' : Below w.heap.size w u3 := by
          refine kb ?_ hb
          go_grown
      clear hp_0 hp_1 hp_2 hp_3 hlp hnp0 hnp1 hkp1 hnp2 hkp2 hB hsz
      clear hb hz
      obtain ⟨⟨hp_0, hp_1⟩, ⟨hp_2, hp_3⟩⟩ := T
      have hlp := L; clear L
      obtain ⟨hnp0, hnp1, hkp1, hnp2, hkp2⟩ := ap0 hlp
      have hB := hB'; clear hB'
      have hsz := hB.size
      go_wp2
      go_ret
      exact ⟨rfl, hB⟩
    rw [hfl] at HFL
    have hfew : ∀ x ∈ l, x.l.length ≤ 100000 := fun x hx => by
      unfold fewL at hfl
      rw [Bool.and_eq_true] at hfl
      have := of_decide_eq_true (List.all_eq_true.1 hfl.1 x hx)
      omega
    have HLO := Lib.hid (fun W (hb : Below w.heap.size w W) => loaded_c l hll hfew lv w.heap.size W (HLV.out.below hb) hb.size (HLd.out W hb))
    have HPLn := Lib.hid (Pl.loads (l := l) hlb Pl.zero)
    clear hfl hfew hb8
    generalize loadsM zeroM l = M at *
    by_cases h20 : 20 < nT
    · have hg20 : (20 : Int) < (nT : Int) := by omega
      clear h20 hl
      go_enter Tryd.func4, Tryd.ntmps4
      go_wp2_with fail
      ((with_reducible refine (HFW.out _ (by go_grown)).mono ?_); rintro _ u1 ⟨rfl, hb⟩)
      have T : CC u1 w.heap.size 0 1 (v1) (v2) ∧ CC u1 w.heap.size 2 3 (.int .i64 P.d) (.int .i64 P.t) := by
          refine ⟨⟨?_, ?_⟩, ⟨?_, ?_⟩⟩ <;> refine kc hb ?_ <;> (go_simp; first | done | rfl)
      have hz := hb.size
      (try simp only [World.size_alloc, World.size_setCell, World.size_drew] at hz)
      have L : w.heap.size < u1.heap.size := by omega
      have hB' : Below w.heap.size w u1 := by
          refine kb ?_ hb
          go_grown
      clear hb hz
      obtain ⟨⟨hp_0, hp_1⟩, ⟨hp_2, hp_3⟩⟩ := T
      have hlp := L; clear L
      obtain ⟨hnp0, hnp1, hkp1, hnp2, hkp2⟩ := ap0 hlp
      have hB := hB'; clear hB'
      have hsz := hB.size
      go_wp2_with fail
      ((with_reducible refine (HFL.out _ hB).mono ?_); rintro _ u2 ⟨rfl, hb⟩)
      have T : CC u2 w.heap.size 0 1 (v1) (v2) ∧ CC u2 w.heap.size 2 3 (.int .i64 P.d) (.int .i64 P.t) := by
          refine ⟨⟨?_, ?_⟩, ⟨?_, ?_⟩⟩ <;> refine kc hb ?_ <;> (go_simp; first | done | rfl)
      have hz := hb.size
      (try simp only [World.size_alloc, World.size_setCell, World.size_drew] at hz)
      have L : w.heap.size < u2.heap.size := by omega
      have hB' : Below w.heap.size w u2 := by
          refine kb ?_ hb
          go_grown
      clear hp_0 hp_1 hp_2 hp_3 hlp hnp0 hnp1 hkp1 hnp2 hkp2 hB hsz
      clear hb hz
      obtain ⟨⟨hp_0, hp_1⟩, ⟨hp_2, hp_3⟩⟩ := T
      have hlp := L; clear L
      obtain ⟨hnp0, hnp1, hkp1, hnp2, hkp2⟩ := ap0 hlp
      have hB := hB'; clear hB'
      have hsz := hB.size
      go_wp2_with fail
      ((with_reducible refine (awake9_c _).mono ?_); rintro _ u3 ⟨rfl, hb⟩)
      have T : CC u3 w.heap.size 0 1 (v1) (v2) ∧ CC u3 w.heap.size 2 3 (.int .i64 P.d) (.int .i64 P.t) := by
          refine ⟨⟨?_, ?_⟩, ⟨?_, ?_⟩⟩ <;> refine kc hb ?_ <;> (go_simp; first | done | rfl)
      have hz := hb.size
      (try simp only [World.size_alloc, World.size_setCell, World.size_drew] at hz)
      have L : w.heap.size < u3.heap.size := by omega
      have hB' : Below w.heap.size w u3 := by
          refine kb ?_ hb
          go_grown
      clear hp_0 hp_1 hp_2 hp_3 hlp hnp0 hnp1 hkp1 hnp2 hkp2 hB hsz
      clear hb hz
      obtain ⟨⟨hp_0, hp_1⟩, ⟨hp_2, hp_3⟩⟩ := T
      have hlp := L; clear L
      obtain ⟨hnp0, hnp1, hkp1, hnp2, hkp2⟩ := ap0 hlp
      have hB := hB'; clear hB'
      have hsz := hB.size
      go_wp2
      go_ret
      exact ⟨rfl, hB⟩
    have hg20 : ¬ (20 : Int) < (nT : Int) := by omega
    have HT20 := Lib.hid h20
    clear h20
    by_cases hc : checkM P = 0
    case neg =>
      have HNW := Lib.hid (fun W (hb : Below w.heap.size w W) => newt_bad P hl _ W (HV.out.below hb) hc)
      have HCK := Lib.hid (fun W (hb : Below w.heap.size w W) => check_c P hl _ W (HV.out.below hb))
      generalize checkM P = E at *
      have e1 : (E == 0) = false := by simpa using hc
      have e2 : (E != 0) = true := by simp [bne, e1]
      clear hc hl
      go_enter Tryd.func4, Tryd.ntmps4
      go_wp2_with fail
      ((with_reducible refine (HFW.out _ (by go_grown)).mono ?_); rintro _ u1 ⟨rfl, hb⟩)
      have T : CC u1 w.heap.size 0 1 (v1) (v2) ∧ CC u1 w.heap.size 2 3 (.int .i64 P.d) (.int .i64 P.t) := by
          refine ⟨⟨?_, ?_⟩, ⟨?_, ?_⟩⟩ <;> refine kc hb ?_ <;> (go_simp; first | done | rfl)
      have hz := hb.size
      (try simp only [World.size_alloc, World.size_setCell, World.size_drew] at hz)
      have L : w.heap.size < u1.heap.size := by omega
      have hB' : Below w.heap.size w u1 := by
          refine kb ?_ hb
          go_grown
      clear hb hz
      obtain ⟨⟨hp_0, hp_1⟩, ⟨hp_2, hp_3⟩⟩ := T
      have hlp := L; clear L
      obtain ⟨hnp0, hnp1, hkp1, hnp2, hkp2⟩ := ap0 hlp
      have hB := hB'; clear hB'
      have hsz := hB.size
      go_wp2_with fail
      ((with_reducible refine (HFL.out _ hB).mono ?_); rintro _ u2 ⟨rfl, hb⟩)
      have T : CC u2 w.heap.size 0 1 (v1) (v2) ∧ CC u2 w.heap.size 2 3 (.int .i64 P.d) (.int .i64 P.t) := by
          refine ⟨⟨?_, ?_⟩, ⟨?_, ?_⟩⟩ <;> refine kc hb ?_ <;> (go_simp; first | done | rfl)
      have hz := hb.size
      (try simp only [World.size_alloc, World.size_setCell, World.size_drew] at hz)
      have L : w.heap.size < u2.heap.size := by omega
      have hB' : Below w.heap.size w u2 := by
          refine kb ?_ hb
          go_grown
      clear hp_0 hp_1 hp_2 hp_3 hlp hnp0 hnp1 hkp1 hnp2 hkp2 hB hsz
      clear hb hz
      obtain ⟨⟨hp_0, hp_1⟩, ⟨hp_2, hp_3⟩⟩ := T
      have hlp := L; clear L
      obtain ⟨hnp0, hnp1, hkp1, hnp2, hkp2⟩ := ap0 hlp
      have hB := hB'; clear hB'
      have hsz := hB.size
      go_wp2_with fail
      ((with_reducible refine (HNW.out _ hB).mono ?_); rintro _ u3 ⟨rfl, hb⟩)
      have T : CC u3 w.heap.size 0 1 (v1) (v2) ∧ CC u3 w.heap.size 2 3 (.int .i64 P.d) (.int .i64 P.t) := by
          refine ⟨⟨?_, ?_⟩, ⟨?_, ?_⟩⟩ <;> refine kc hb ?_ <;> (go_simp; first | done | rfl)
      have hz := hb.size
      (try simp only [World.size_alloc, World.size_setCell, World.size_drew] at hz)
      have L : w.heap.size < u3.heap.size := by omega
      have hB' : Below w.heap.size w u3 := by
          refine kb ?_ hb
          go_grown
      clear hp_0 hp_1 hp_2 hp_3 hlp hnp0 hnp1 hkp1 hnp2 hkp2 hB hsz
      clear hb hz
      obtain ⟨⟨hp_0, hp_1⟩, ⟨hp_2, hp_3⟩⟩ := T
      have hlp := L; clear L
      obtain ⟨hnp0, hnp1, hkp1, hnp2, hkp2⟩ := ap0 hlp
      have hB := hB'; clear hB'
      have hsz := hB.size
      go_wp2_with fail
      ((with_reducible refine (HLO.out _ (by go_grown)).mono ?_); rintro _ u4 ⟨mb, bb, rfl, hb, hP, hmb, hbb⟩)
      have hs_u4 := Lib.hid hb
      have T : CC u4 w.heap.size 0 1 (v1) (v2) ∧ CC u4 w.heap.size 2 3 (.int .i64 P.d) (.int .i64 P.t) := by
          refine ⟨⟨?_, ?_⟩, ⟨?_, ?_⟩⟩ <;> refine kc hb ?_ <;> (go_simp; first | done | rfl)
      have hz := hb.size
      (try simp only [World.size_alloc, World.size_setCell, World.size_drew] at hz)
      have L : w.heap.size < u4.heap.size := by omega
      have hB' : Below w.heap.size w u4 := by
          refine kb ?_ hb
          go_grown
      clear hp_0 hp_1 hp_2 hp_3 hlp hnp0 hnp1 hkp1 hnp2 hkp2 hB hsz
      clear hb hz
      obtain ⟨⟨hp_0, hp_1⟩, ⟨hp_2, hp_3⟩⟩ := T
      have hlp := L; clear L
      obtain ⟨hnp0, hnp1, hkp1, hnp2, hkp2⟩ := ap0 hlp
      have hB := hB'; clear hB'
      have hsz := hB.size
      clear hP hmb hbb
      go_wp2_with fail
      ((with_reducible refine (HLO.out _ (by go_grown)).mono ?_); rintro _ u5 ⟨ob, obb, rfl, hb, hP, hmb, hbb⟩)
      have hs_u5 := Lib.hid hb
      have T : CC u5 w.heap.size 0 1 (v1) (v2) ∧ CC u5 w.heap.size 2 3 (.int .i64 P.d) (.int .i64 P.t) := by
          refine ⟨⟨?_, ?_⟩, ⟨?_, ?_⟩⟩ <;> refine kc hb ?_ <;> (go_simp; first | done | rfl)
      have hz := hb.size
      (try simp only [World.size_alloc, World.size_setCell, World.size_drew] at hz)
      have L : w.heap.size < u5.heap.size := by omega
      have hB' : Below w.heap.size w u5 := by
          refine kb ?_ hb
          go_grown
      clear hp_0 hp_1 hp_2 hp_3 hlp hnp0 hnp1 hkp1 hnp2 hkp2 hB hsz
      clear hb hz
      obtain ⟨⟨hp_0, hp_1⟩, ⟨hp_2, hp_3⟩⟩ := T
      have hlp := L; clear L
      obtain ⟨hnp0, hnp1, hkp1, hnp2, hkp2⟩ := ap0 hlp
      have hB := hB'; clear hB'
      have hsz := hB.size
      clear hP hmb hbb
      go_wp2_with fail
      ((with_reducible refine (HCK.out _ (by go_grown)).mono ?_); rintro _ u6 ⟨rfl, hb⟩)
      have hz := hb.size
      (try simp only [World.size_alloc, World.size_setCell, World.size_drew] at hz)
      have hB' : Below w.heap.size w u6 := by
          refine kb ?_ hb
          go_grown
      clear hp_0 hp_1 hp_2 hp_3 hlp hnp0 hnp1 hkp1 hnp2 hkp2 hB hsz
      clear hb hz
      have hB := hB'; clear hB'
      have hsz := hB.size
      go_wp2_with fail
      ((with_reducible refine (awake9_c _).mono ?_); rintro _ u7 ⟨rfl, hb⟩)
      have hz := hb.size
      (try simp only [World.size_alloc, World.size_setCell, World.size_drew] at hz)
      have hB' : Below w.heap.size w u7 := by
          refine kb ?_ hb
          go_grown
      clear hB hsz
      clear hb hz
      have hB := hB'; clear hB'
      have hsz := hB.size
      go_wp2
      go_ret
      exact ⟨rfl, hB⟩
    case pos =>
      have HNW := Lib.hid (fun W (hb : Below w.heap.size w W) => newt_good P hl _ W (HV.out.below hb) hc)
      have HC0 := Lib.hid hc
      have HVM := Lib.hid (show VB M from HPLn.out.v)
      have HSB := Lib.hid (show ∀ k, By (bitsR P.s k) from fun k => bits_u8 HB8.out.1 k)
      have HLW := Lib.hid (low_turns (S := bitsR P.s) (M := M) (l := tl) HSB.out HVM.out HTB.out)
      have HLC := Lib.hid (low_comm (S := bitsR P.s) HVM.out (turns_by HTB.out HVM.out))
      have e0 : lowM (bitsR P.s) M M = true := low_refl HSB.out HVM.out (fun k => rfl)
      have HL0 := Lib.hid (fun tb mb bb nb nbb W hT hP hQ hL => e0 ▸ lowp_c P M M tb mb bb nb nbb W hT hP hQ hL)
      clear hc e0 hl
      go_enter Tryd.func4, Tryd.ntmps4
      go_wp2_with fail
      ((with_reducible refine (HFW.out _ (by go_grown)).mono ?_); rintro _ u1 ⟨rfl, hb⟩)
      have T : CC u1 w.heap.size 0 1 (v1) (v2) ∧ CC u1 w.heap.size 2 3 (.int .i64 P.d) (.int .i64 P.t) := by
          refine ⟨⟨?_, ?_⟩, ⟨?_, ?_⟩⟩ <;> refine kc hb ?_ <;> (go_simp; first | done | rfl)
      have hz := hb.size
      (try simp only [World.size_alloc, World.size_setCell, World.size_drew] at hz)
      have L : w.heap.size < u1.heap.size := by omega
      have hB' : Below w.heap.size w u1 := by
          refine kb ?_ hb
          go_grown
      clear hb hz
      obtain ⟨⟨hp_0, hp_1⟩, ⟨hp_2, hp_3⟩⟩ := T
      have hlp := L; clear L
      obtain ⟨hnp0, hnp1, hkp1, hnp2, hkp2⟩ := ap0 hlp
      have hB := hB'; clear hB'
      have hsz := hB.size
      go_wp2_with fail
      ((with_reducible refine (HFL.out _ hB).mono ?_); rintro _ u2 ⟨rfl, hb⟩)
      have T : CC u2 w.heap.size 0 1 (v1) (v2) ∧ CC u2 w.heap.size 2 3 (.int .i64 P.d) (.int .i64 P.t) := by
          refine ⟨⟨?_, ?_⟩, ⟨?_, ?_⟩⟩ <;> refine kc hb ?_ <;> (go_simp; first | done | rfl)
      have hz := hb.size
      (try simp only [World.size_alloc, World.size_setCell, World.size_drew] at hz)
      have L : w.heap.size < u2.heap.size := by omega
      have hB' : Below w.heap.size w u2 := by
          refine kb ?_ hb
          go_grown
      clear hp_0 hp_1 hp_2 hp_3 hlp hnp0 hnp1 hkp1 hnp2 hkp2 hB hsz
      clear hb hz
      obtain ⟨⟨hp_0, hp_1⟩, ⟨hp_2, hp_3⟩⟩ := T
      have hlp := L; clear L
      obtain ⟨hnp0, hnp1, hkp1, hnp2, hkp2⟩ := ap0 hlp
      have hB := hB'; clear hB'
      have hsz := hB.size
      go_wp2_with fail
      ((with_reducible refine (HNW.out _ hB).mono ?_); rintro _ u3 ⟨tb, rfl, hb, hT, htb⟩)
      have hs_u3 := Lib.hid hb
      have hz := hb.size
      (try simp only [World.size_alloc, World.size_setCell, World.size_drew] at hz)
      have hB' : Below w.heap.size w u3 := by
          refine kb ?_ hb
          go_grown
      clear hp_0 hp_1 hp_2 hp_3 hlp hnp0 hnp1 hkp1 hnp2 hkp2 hB hsz
      clear hb hz
      have hB := hB'; clear hB'
      have hsz := hB.size
      have HT3 := Lib.hid hT
      have h33 : Below u3.heap.size u3 u3 := Below.refl _ _
      have htl3 := hT.lt
      clear hT
      go_wp2_with fail
      ((with_reducible refine (HLO.out _ (by go_grown)).mono ?_); rintro _ u4 ⟨mb, bb, rfl, hb, hP, hmb, hbb⟩)
      have hs_u4 := Lib.hid hb
      have hz := hb.size
      (try simp only [World.size_alloc, World.size_setCell, World.size_drew] at hz)
      have hB' : Below w.heap.size w u4 := by
          refine kb ?_ hb
          go_grown
      clear hB hsz
      clear hb hz
      have hB := hB'; clear hB'
      have hsz := hB.size
      have HPm := Lib.hid hP
      have HT4 := Lib.hid (HT3.out.below hs_u4.out)
      have h34 : Below u3.heap.size u3 u4 := kb h33 hs_u4.out
      clear h33
      have hzw4 := hB.size
      have hz4 : mb < u4.heap.size ∧ bb < u4.heap.size := ⟨klt hP.c0, hP.lt⟩
      clear hP
      go_wp2_with fail
      ((with_reducible refine (HLO.out _ (by go_grown)).mono ?_); rintro _ u5 ⟨ob, obb, rfl, hb, hP, hob, hobb⟩)
      have hs_u5 := Lib.hid hb
      have hz := hb.size
      (try simp only [World.size_alloc, World.size_setCell, World.size_drew] at hz)
      have hB' : Below w.heap.size w u5 := by
          refine kb ?_ hb
          go_grown
      clear hB hsz
      clear hb hz
      have hB := hB'; clear hB'
      have hsz := hB.size
      have HPo := Lib.hid hP
      have HPm5 := Lib.hid (HPm.out.below hs_u5.out)
      have HT5 := Lib.hid (HT4.out.below hs_u5.out)
      have h35 : Below u3.heap.size u3 u5 := kb h34 hs_u5.out
      clear h34
      have hz5 : ob < u5.heap.size ∧ obb < u5.heap.size := ⟨klt hP.c0, hP.lt⟩
      have hz45 := hs_u5.out.size
      clear hP HPm HT4
      go_wp2_with fail
      ((with_reducible refine (HL0.out _ _ _ _ _ _ HT5.out HPm5.out HPm5.out (HLd.out _ hB)).mono ?_); rintro _ u6 ⟨rfl, hb⟩)
      have hs_u6 := Lib.hid hb
      have hz := hb.size
      (try simp only [World.size_alloc, World.size_setCell, World.size_drew] at hz)
      have hB' : Below w.heap.size w u6 := by
          refine kb ?_ hb
          go_grown
      clear hB hsz
      clear hb hz
      have hB := hB'; clear hB'
      have hsz := hB.size
      have HPm6 := Lib.hid (HPm5.out.below hs_u6.out)
      have HPo6 := Lib.hid (HPo.out.below hs_u6.out)
      have HT6 := Lib.hid (HT5.out.below hs_u6.out)
      have h36 : Below u3.heap.size u3 u6 := kb h35 hs_u6.out
      clear h35
      have hz6 := hs_u6.out.size
      clear hs_u6 HPm5 HPo HT5
      go_wp2_with fail
      ((with_reducible refine (HL0.out _ _ _ _ _ _ HT6.out HPm6.out HPo6.out (HLd.out _ hB)).mono ?_); rintro _ u7 ⟨rfl, hb⟩)
      have hs_u7 := Lib.hid hb
      have hz := hb.size
      (try simp only [World.size_alloc, World.size_setCell, World.size_drew] at hz)
      have hB' : Below w.heap.size w u7 := by
          refine kb ?_ hb
          go_grown
      clear hB hsz
      clear hb hz
      have hB := hB'; clear hB'
      have hsz := hB.size
      have HPm7 := Lib.hid (HPm6.out.below hs_u7.out)
      have HPo7 := Lib.hid (HPo6.out.below hs_u7.out)
      have HT7 := Lib.hid (HT6.out.below hs_u7.out)
      have h37 : Below u3.heap.size u3 u7 := kb h36 hs_u7.out
      clear h36
      have hz7 := hs_u7.out.size
      have HB7 := Lib.hid hB
      have HB37 := Lib.hid (show Below u3.heap.size u3 u7 from h37)
      clear hs_u7 HPm6 HPo6 HT6 HL0 hB hsz HNW HLO HFW HFL
      go_wp2_with fail
      go_loopw [11] (fun s11 wr => ∃ k : Nat, k ≤ nT ∧ s11 = .int .i64 k ∧ Hid (Pm ob obb wr (turnsM M (tl.take k))) ∧ Hid (u7.grownBy wr (some obb))) (fun i _ => nT - (intOf i).toNat)
      case atStart => exact ⟨0, Nat.zero_le _, rfl, Lib.hid (by rw [List.take_zero]; exact HPo7.out), Lib.hid (grown_of9 (Below.refl _ _))⟩
      case round =>
        obtain ⟨k, hk, rfl, HPr, HGr⟩ := hrel
        have HBr := Lib.hid (show Below w.heap.size w wr from below_grown9 HB7.out HGr.out (by have := HB7.out.size; omega))
        by_cases hlt2 : k < nT
        · have hd : decide ((k : Int) < (nT : Int)) = true := decide_eq_true (by omega)
          have hlk : k < tl.length := by rw [HNT.out]; exact hlt2
          have hin : (0 : Int) ≤ (k : Int) ∧ (k : Int) < (nT : Int) := by omega
          have hw1 : IntKind.i64.wrap ((k : Int) + 1) = (k : Int) + 1 := IntWalk.i64_in _ (by omega)
          obtain ⟨g, o, cap, e1, hcap, hcc⟩ := HTV.out.some (by omega)
          obtain ⟨rfl, n1, rfl⟩ := Value.slice.inj e1
          clear e1 n1
          obtain ⟨x0, x1⟩ := get2t hcc (List.getElem?_eq_getElem hlk)
          have hst : turnsM M (tl.take (k + 1)) = turnM (turnsM M (tl.take k)) tl[k] := by rw [List.take_succ_eq_append_getElem hlk, turnsM_snoc]
          have hxb := HTB.out tl[k] (List.getElem_mem hlk)
          generalize tl[k] = x at *
          obtain ⟨xa, xb⟩ := x
          generalize turnsM M (tl.take k) = N at *
          dsimp only at x0 x1
          have hs_0 := kc HBr.out x0
          have hs_1 := kc HBr.out x1
          have HRD := Lib.hid (fun W (hb : Below wr.heap.size wr W) => readp_c N xa ob obb W (HPr.out.below hb) (HLd.out W (kb HBr.out hb)))
          have hsk := @turn_skip N ⟨xa, xb⟩
          have hdo := @turn_does N ⟨xa, xb⟩
          dsimp only at hsk hdo
          obtain ⟨⟨rv, rt, re⟩, hr⟩ : ∃ r, prM N xa = r := ⟨_, rfl⟩
          rw [hr] at HRD hsk hdo
          dsimp only at HRD hsk hdo
          have HSK := Lib.hid hsk
          have HDO := Lib.hid hdo
          have HST := Lib.hid hst
          clear hcc x0 x1 hr hsk hdo hst
          have hB : Below wr.heap.size wr wr := Below.refl _ _
          have hsz := hB.size
          have hls := klt hs_0
          go_wp2_with fail
          ((with_reducible refine (HRD.out _ hB).mono ?_); rintro _ u8 ⟨rfl, hb⟩)
          have T : CC u8 g (o + k * 2) (o + k * 2 + 1) (.int .i64 xa) (.int .u8 xb) := by
              refine ⟨?_, ?_⟩ <;> refine kc hb ?_ <;> (go_simp; first | done | rfl)
          have hz := hb.size
          (try simp only [World.size_alloc, World.size_setCell, World.size_drew] at hz)
          have L : g < u8.heap.size := by omega
          have hB' : Below wr.heap.size wr u8 := by
              refine kb ?_ hb
              go_grown
          clear hb hz
          obtain ⟨hs_0, hs_1⟩ := T
          have hls := L; clear L
          obtain ⟨hns0, hns1, hks1, hns2, hks2⟩ := ap0 hls
          have hB := hB'; clear hB'
          have hsz := hB.size
          cases hre : (re == 0)
          · have hre2 : (re != 0) = true := by simp [bne, hre]
            have HN := Lib.hid (show turnsM M (tl.take (k + 1)) = N from by rw [HST.out, HSK.out hre])
            go_wp2
            go_roundw
            case rel => exact ⟨k + 1, by omega, by go_num, Lib.hid (by rw [HN.out]; exact HPr.out.below (by go_grown)), Lib.hid (World.grownBy.trans HGr.out (grown_of9 (g := some obb) (by go_grown)))⟩
            case measure => simp [intOf] <;> omega
          · have hre2 : (re != 0) = false := by simp [bne, hre]
            have HN := Lib.hid (show turnsM M (tl.take (k + 1)) = (loadMp N xa [bits .xor .u8 rv xb]).2 from by rw [HST.out, HDO.out hre])
            obtain ⟨zv, hzv⟩ : ∃ z, bits .xor .u8 rv xb = z := ⟨_, rfl⟩
            rw [hzv] at HN
            have HCW := Lib.hid (loadp_c N xa [zv] (by simp) ob obb)
            have HB8 := Lib.hid hB
            have hB8 : Below u8.heap.size u8 (u8.alloc (.cells #[.int .u8 rv, .int .u8 rt] 42)) := (Below.refl _ _).alloc (Nat.le_refl _) _
            have HBA := Lib.hid (kb hB hB8)
            clear hB8
            go_upto_region 15 with fail
            refine wp_region_planD 9 15 (fun W => W.cell? ⟨g, o + k * 2, none⟩ = some (.int .i64 xa) ∧ W.cell? ⟨g, o + k * 2 + 1, none⟩ = some (.int .u8 xb) ∧ W.cell? ⟨u8.heap.size, 0, none⟩ = some (.int .u8 rv) ∧ Below (u8.alloc (.cells #[.int .u8 rv, .int .u8 rt] 42)).heap.size (u8.alloc (.cells #[.int .u8 rv, .int .u8 rt] 42)) W)
              [.val (.pointer (some ⟨ob, 0, none⟩)), .val (.slice (some ⟨g, o, none⟩) nT tc), .val (.int .i64 k), .val (.pointer (some ⟨g, o + k * 2, none⟩)), .val (.pointer (some ⟨g, o + k * 2, none⟩)), .val (.int .i64 xa), .val (.pointer (some ⟨u8.heap.size, 0, none⟩)), .val (.int .u8 rv),
                .val (.slice (some ⟨g, o, none⟩) nT tc), .val (.int .i64 k), .val (.pointer (some ⟨g, o + k * 2, none⟩)), .val (.pointer (some ⟨g, o + k * 2 + 1, none⟩)), .val (.int .u8 xb), .val (.int .u8 zv), kB1 zv]
              (by kernel_rfl) (by kernel_rfl) (by kernel_rfl) (by kernel_rfl) (by kernel_rfl) (fun W w1 h hb => ⟨kc hb h.1, kc hb h.2.1, kc hb h.2.2.1, h.2.2.2.trans (hb.mono h.2.2.2.size)⟩) ?_ ?_ ?_
            · intro k hk
              simp only [List.mem_cons, List.not_mem_nil, or_false] at hk
              rcases hk with rfl | rfl | rfl | rfl | rfl | rfl | rfl | rfl | rfl | rfl | rfl | rfl | rfl | rfl | rfl <;> first | exact trivial | exact kB1_fine _
            · exact ⟨by go_simp, by go_simp, by go_simp, Below.drew (Below.refl _ _)⟩
            (try simp only [List.append_eq, List.cons_append, List.nil_append, List.toList_toArray, List.take_succ_cons, List.take_zero, List.drop_succ_cons, List.drop_zero])
            (iterate 14 (refine PlanR.val ?_ ?_ ?_; (· rfl); (· (intro W hSw; (try dsimp only at hSw); go_simp; all_goals (first | (with_reducible rfl) | (constructor <;> (with_reducible rfl))))); intro _ _; (try simp only [Act.put, List.setIfInBounds_toArray, List.set_cons_zero, List.set_cons_succ])))
            refine PlanR.any ?_ ?_ ?_
            · rfl
            · intro W hSw _
              clear hSw
              go_simp
              exact ⟨(Below.refl _ _).alloc (Nat.le_refl _) _, rfl, one_byte_at _ _ _⟩
            rintro ⟨_, B, hiB⟩ ⟨b, rfl⟩
            (try simp only [Act.put, List.setIfInBounds_toArray, List.set_cons_zero, List.set_cons_succ])
            refine PlanR.done ?_
            intro u G
            have hP : Value.slice (some ⟨b, 0, none⟩) 1 1 = .slice (some ⟨B, 0, none⟩) 1 1 ∧ u.cell? ⟨B, 0, none⟩ = some (.int .u8 zv) := (G.each 14 (by decide) rfl).1
            have hBlo : (u8.alloc (.cells #[.int .u8 rv, .int .u8 rt] 42)).heap.size ≤ B := (G.each 14 (by decide) rfl).2.1
            have hBu := G.s.2.2.2
            obtain ⟨e1, hc⟩ := hP
            cases e1
            have HXu := Lib.hid (holds_byte hc)
            have HBu := Lib.hid (kb HBA.out hBu)
            simp only [World.size_alloc] at hBlo
            clear G hc hBu
            (try simp only [List.drop_succ_cons, List.drop_zero])
            have hobr : obb < wr.heap.size := HPr.out.lt
            go_wp2_with fail
            have hOW : ∀ g', (Value.slice (some (⟨B, 0, none⟩ : Addr)) 1 1).ownBlock = some g' → g' ≠ obb := fun g' h => by
              obtain rfl : B = g' := by simpa [Value.ownBlock] using h
              omega
            refine (HCW.out _ _ (HPr.out.below HBu.out) (HLd.out _ (kb HBr.out HBu.out)) HXu.out (fun _ => hOW)).mono ?_
            rintro _ u9 ⟨rfl, hg, hP2⟩
            have HP2 := Lib.hid (show Pm ob obb u9 (turnsM M (tl.take (k + 1))) from by rw [HN.out]; exact hP2)
            have HG2 := Lib.hid (World.grownBy.trans (World.grownBy.trans HGr.out (grown_of9 (g := some obb) HBu.out)) hg)
            clear hg hP2
            go_wp2
            go_roundw
            case rel => exact ⟨k + 1, by omega, by go_num, HP2, HG2⟩
            case measure => simp [intOf] <;> omega
        · have hkm : k = nT := by omega
          have hd : decide ((k : Int) < (nT : Int)) = false := decide_eq_false (by omega)
          have HPF := Lib.hid (show Pm ob obb wr (turnsM M tl) from by have := HPr.out; rw [hkm, ← HNT.out, List.take_length] at this; exact this)
          have hobw : w.heap.size ≤ obb := by omega
          obtain ⟨wo, hwo⟩ : ∃ W, W = wr := ⟨_, rfl⟩
          rw [← hwo] at HPF HBr HGr ⊢
          have HPM := Lib.hid (HPm7.out.other HGr.out (by omega) (by omega))
          have HTO := Lib.hid (show Tp tb P wo from HT3.out.below (below_grown9 HB37.out HGr.out (by omega)))
          have HVN := Lib.hid (turns_by HTB.out HVM.out)
          clear hwo HPr hkm
          generalize turnsM M tl = N at *
          have HLW2 := Lib.hid (show goodK (bitsR P.s) M N tl nT = lowM (bitsR P.s) M N from by rw [HLW.out]; unfold goodK; rw [List.take_of_length_le (by have := HNT.out; omega)])
          have HL1 := Lib.hid (fun W (hb : Below wo.heap.size wo W) => lowp_c P M N tb mb bb ob obb W (HTO.out.below hb) (HPM.out.below hb) (HPF.out.below hb) (HLd.out W (kb HBr.out hb)))
          have HL2 := Lib.hid (fun W (hb : Below wo.heap.size wo W) => lowp_c P N M tb ob obb mb bb W (HTO.out.below hb) (HPF.out.below hb) (HPM.out.below hb) (HLd.out W (kb HBr.out hb)))
          rw [HLC.out] at HL2
          clear HLW HLC
          go_wp2_with fail
          go_loopw [14, 15] (fun s14 s15 wr => ∃ k : Nat, k ≤ nT ∧ s15 = .int .i64 k ∧ s14 = .bool (goodK (bitsR P.s) M N tl k) ∧ Below wo.heap.size wo wr) (fun _ s15 _ => nT - (intOf s15).toNat)
          case atStart => exact ⟨0, Nat.zero_le _, rfl, rfl, Below.refl _ _⟩
          case round =>
            obtain ⟨k, hk, rfl, rfl, hB⟩ := hrel
            have hsz := hB.size
            by_cases hlt2 : k < nT
            · have hd : decide ((k : Int) < (nT : Int)) = true := decide_eq_true (by omega)
              have hlk : k < tl.length := by rw [HNT.out]; exact hlt2
              have hin : (0 : Int) ≤ (k : Int) ∧ (k : Int) < (nT : Int) := by omega
              have hw1 : IntKind.i64.wrap ((k : Int) + 1) = (k : Int) + 1 := IntWalk.i64_in _ (by omega)
              obtain ⟨g, o, cap, e1, hcap, hcc⟩ := HTV.out.some (by omega)
              obtain ⟨rfl, n1, rfl⟩ := Value.slice.inj e1
              clear e1 n1
              obtain ⟨x0, x1⟩ := get2t hcc (List.getElem?_eq_getElem hlk)
              have hst := goodK_snoc (S := bitsR P.s) (M := M) (N := N) hlk
              generalize tl[k] = x at *
              obtain ⟨xa, xb⟩ := x
              dsimp only at x0 x1 hst
              have hs_0 := kc hB (kc HBr.out x0)
              have HR1 := Lib.hid (fun W (hb : Below wo.heap.size wo W) => readp_c M xa mb bb W (HPM.out.below hb) (HLd.out W (kb HBr.out hb)))
              have HR2 := Lib.hid (fun W (hb : Below wo.heap.size wo W) => readp_c N xa ob obb W (HPF.out.below hb) (HLd.out W (kb HBr.out hb)))
              have HSE := Lib.hid (fun W (hb : Below wo.heap.size wo W) => secretp9_c HC0.out xa tb W (HTO.out.below hb))
              unfold badX at hst
              obtain ⟨⟨r1, t1, f1⟩, hr1⟩ : ∃ r, prM M xa = r := ⟨_, rfl⟩
              obtain ⟨⟨r2, t2, f2⟩, hr2⟩ : ∃ r, prM N xa = r := ⟨_, rfl⟩
              rw [hr1] at HR1 hst
              rw [hr2] at HR2 hst
              dsimp only at HR1 HR2 hst
              obtain ⟨GK, hGK⟩ : ∃ G, goodK (bitsR P.s) M N tl k = G := ⟨_, rfl⟩
              rw [hGK] at hst ⊢
              generalize bitsR P.s xa = sv at *
              have HST := Lib.hid hst
              have hls := klt hs_0
              clear hcc x0 x1 hr1 hr2 hst hGK
              go_wp2_with fail
              ((with_reducible refine (HR1.out _ hB).mono ?_); rintro _ y1 ⟨rfl, hb⟩)
              have T : y1.cell? ⟨g, o + k * 2, none⟩ = some (.int .i64 xa) := by
                  refine kc hb ?_ <;> (go_simp; first | done | rfl)
              have hz := hb.size
              (try simp only [World.size_alloc, World.size_setCell, World.size_drew] at hz)
              have L : g < y1.heap.size := by omega
              have hB' : Below wo.heap.size wo y1 := by
                  refine kb ?_ hb
                  go_grown
              clear hb hz
              have hs_0 := T; clear T
              have hls := L; clear L
              obtain ⟨hns0, hns1, hks1, hns2, hks2⟩ := ap0 hls
              have hB := hB'; clear hB'
              have hsz := hB.size
              go_wp2_with fail
              ((with_reducible refine (HR2.out _ (by go_grown)).mono ?_); rintro _ y2 ⟨rfl, hb⟩)
              have T : y2.cell? ⟨g, o + k * 2, none⟩ = some (.int .i64 xa) ∧ CC y2 y1.heap.size 0 1 (.int .u8 r1) (.int .u8 t1) := by
                  refine ⟨?_, ⟨?_, ?_⟩⟩ <;> refine kc hb ?_ <;> (go_simp; first | done | rfl)
              have hz := hb.size
              (try simp only [World.size_alloc, World.size_setCell, World.size_drew] at hz)
              have L : g < y2.heap.size ∧ y1.heap.size < y2.heap.size := by omega
              have hB' : Below wo.heap.size wo y2 := by
                  refine kb ?_ hb
                  go_grown
              clear hs_0 hls hns0 hns1 hks1 hns2 hks2 hB hsz
              clear hb hz
              obtain ⟨hs_0, ⟨ha1_0, ha1_1⟩⟩ := T
              obtain ⟨hls, hla1⟩ := L
              obtain ⟨hns0, hns1, hks1, hns2, hks2⟩ := ap0 hls
              obtain ⟨hna10, hna11, hka11, hna12, hka12⟩ := ap0 hla1
              have hB := hB'; clear hB'
              have hsz := hB.size
              go_upto_region 22 with fail
              cases hf1 : (f1 == 0)
              · have HN := Lib.hid (show goodK (bitsR P.s) M N tl (k + 1) = GK from by rw [HST.out, hf1]; simp)
                clear HST
                refine wp_region_plan (fun w' => w'.cell? ⟨g, o + k * 2, none⟩ = some (.int .i64 xa) ∧ w'.cell? ⟨y1.heap.size, 0, none⟩ = some (.int .u8 r1) ∧ w'.cell? ⟨y1.heap.size, 1, none⟩ = some (.int .u8 t1) ∧ w'.cell? ⟨y2.heap.size, 0, none⟩ = some (.int .u8 r2) ∧ w'.cell? ⟨y2.heap.size, 1, none⟩ = some (.int .u8 t2) ∧ Below wo.heap.size wo w') (by kernel_rfl) (by kernel_rfl) (by kernel_rfl) ?_ ?_
                · (try dsimp only)
                  refine ⟨?_, ?_, ?_, ?_, ?_, ?_⟩ <;> first | (go_simp; done) | (simp [*]; done) | go_grown
                repeat (first
                  | (refine Plan.val (v := ?_) ?_ ?_ ?_; rotate_left; (· rfl); (· (intro W hSw; (try dsimp only at hSw); go_simp; all_goals (first | (with_reducible rfl) | (constructor <;> (with_reducible rfl)) | (rw [if_neg (by omega)]; done) | (rw [if_neg (by omega)]; with_reducible rfl)))); (try simp only [Act.put, List.setIfInBounds_toArray, List.set_cons_zero, List.set_cons_succ]))
                  | (refine Plan.no ?_ ?_; (· rfl); (try simp only [Act.put, List.setIfInBounds_toArray, List.set_cons_zero, List.set_cons_succ]))
                  | (refine Plan.call (v := ?_) (f := ?_) (args := ?_) ?_ ?_ ?_ ?_; rotate_left 3; (· rfl); (· (intro W hSw; (try dsimp only at hSw); go_simp; all_goals (first | (with_reducible rfl) | (constructor <;> (with_reducible rfl)) | (rw [if_neg (by omega)]; done) | (rw [if_neg (by omega)]; with_reducible rfl)))); (· (intro W hSw; (try dsimp only at hSw); first | (go_at_call 16; ((with_reducible refine (HSE.out _ hSw.2.2.2.2.2).mono ?_); rintro _ wz ⟨rfl, hb⟩; (refine ⟨?_, ?_⟩; (· with_reducible rfl); exact ⟨kc hb hSw.1, kc hb hSw.2.1, kc hb hSw.2.2.1, kc hb hSw.2.2.2.1, kc hb hSw.2.2.2.2.1, kb hSw.2.2.2.2.2 hb⟩))))); (try simp only [Act.put, List.setIfInBounds_toArray, List.set_cons_zero, List.set_cons_succ])))
                refine Plan.done ?_
                intro y3 T
                (try dsimp only at T)
                clear hs_0 ha1_0 ha1_1 hls hla1 hns0 hns1 hks1 hns2 hks2 hna10 hna11 hka11 hna12 hka12 hB hsz
                obtain ⟨hs_0, ha1_0, ha1_1, ha2_0, ha2_1, hB⟩ := T
                have hsz := hB.size
                have hls := klt hs_0
                have hla1 := klt ha1_0
                have hla2 := klt ha2_0
                obtain ⟨hns0, hns1, hks1, hns2, hks2⟩ := ap0 hls
                obtain ⟨hna10, hna11, hka11, hna12, hka12⟩ := ap0 hla1
                obtain ⟨hna20, hna21, hka21, hna22, hka22⟩ := ap0 hla2
                go_wp2
                go_roundw
                case rel => exact ⟨k + 1, by omega, by go_num, by rw [HN.out], hB⟩
                case measure => simp [intOf] <;> omega
              · cases hf2 : (f2 == 0)
                · have HN := Lib.hid (show goodK (bitsR P.s) M N tl (k + 1) = GK from by rw [HST.out, hf1, hf2]; simp)
                  clear HST
                  refine wp_region_plan (fun w' => w'.cell? ⟨g, o + k * 2, none⟩ = some (.int .i64 xa) ∧ w'.cell? ⟨y1.heap.size, 0, none⟩ = some (.int .u8 r1) ∧ w'.cell? ⟨y1.heap.size, 1, none⟩ = some (.int .u8 t1) ∧ w'.cell? ⟨y2.heap.size, 0, none⟩ = some (.int .u8 r2) ∧ w'.cell? ⟨y2.heap.size, 1, none⟩ = some (.int .u8 t2) ∧ Below wo.heap.size wo w') (by kernel_rfl) (by kernel_rfl) (by kernel_rfl) ?_ ?_
                  · (try dsimp only)
                    refine ⟨?_, ?_, ?_, ?_, ?_, ?_⟩ <;> first | (go_simp; done) | (simp [*]; done) | go_grown
                  repeat (first
                    | (refine Plan.val (v := ?_) ?_ ?_ ?_; rotate_left; (· rfl); (· (intro W hSw; (try dsimp only at hSw); go_simp; all_goals (first | (with_reducible rfl) | (constructor <;> (with_reducible rfl)) | (rw [if_neg (by omega)]; done) | (rw [if_neg (by omega)]; with_reducible rfl)))); (try simp only [Act.put, List.setIfInBounds_toArray, List.set_cons_zero, List.set_cons_succ]))
                    | (refine Plan.no ?_ ?_; (· rfl); (try simp only [Act.put, List.setIfInBounds_toArray, List.set_cons_zero, List.set_cons_succ]))
                    | (refine Plan.call (v := ?_) (f := ?_) (args := ?_) ?_ ?_ ?_ ?_; rotate_left 3; (· rfl); (· (intro W hSw; (try dsimp only at hSw); go_simp; all_goals (first | (with_reducible rfl) | (constructor <;> (with_reducible rfl)) | (rw [if_neg (by omega)]; done) | (rw [if_neg (by omega)]; with_reducible rfl)))); (· (intro W hSw; (try dsimp only at hSw); first | (go_at_call 16; ((with_reducible refine (HSE.out _ hSw.2.2.2.2.2).mono ?_); rintro _ wz ⟨rfl, hb⟩; (refine ⟨?_, ?_⟩; (· with_reducible rfl); exact ⟨kc hb hSw.1, kc hb hSw.2.1, kc hb hSw.2.2.1, kc hb hSw.2.2.2.1, kc hb hSw.2.2.2.2.1, kb hSw.2.2.2.2.2 hb⟩))))); (try simp only [Act.put, List.setIfInBounds_toArray, List.set_cons_zero, List.set_cons_succ])))
                  refine Plan.done ?_
                  intro y3 T
                  (try dsimp only at T)
                  clear hs_0 ha1_0 ha1_1 hls hla1 hns0 hns1 hks1 hns2 hks2 hna10 hna11 hka11 hna12 hka12 hB hsz
                  obtain ⟨hs_0, ha1_0, ha1_1, ha2_0, ha2_1, hB⟩ := T
                  have hsz := hB.size
                  have hls := klt hs_0
                  have hla1 := klt ha1_0
                  have hla2 := klt ha2_0
                  obtain ⟨hns0, hns1, hks1, hns2, hks2⟩ := ap0 hls
                  obtain ⟨hna10, hna11, hka11, hna12, hka12⟩ := ap0 hla1
                  obtain ⟨hna20, hna21, hka21, hna22, hka22⟩ := ap0 hla2
                  go_wp2
                  go_roundw
                  case rel => exact ⟨k + 1, by omega, by go_num, by rw [HN.out], hB⟩
                  case measure => simp [intOf] <;> omega
                · obtain ⟨zv, hzv⟩ : ∃ z, bits .or .u8 (bits .xor .u8 r1 r2) sv = z := ⟨_, rfl⟩
                  rw [hzv] at HST
                  cases hbd : (zv != sv)
                  · have HN := Lib.hid (show goodK (bitsR P.s) M N tl (k + 1) = GK from by rw [HST.out, hf1, hf2, hbd]; simp)
                    clear HST
                    refine wp_region_plan (fun w' => w'.cell? ⟨g, o + k * 2, none⟩ = some (.int .i64 xa) ∧ w'.cell? ⟨y1.heap.size, 0, none⟩ = some (.int .u8 r1) ∧ w'.cell? ⟨y1.heap.size, 1, none⟩ = some (.int .u8 t1) ∧ w'.cell? ⟨y2.heap.size, 0, none⟩ = some (.int .u8 r2) ∧ w'.cell? ⟨y2.heap.size, 1, none⟩ = some (.int .u8 t2) ∧ Below wo.heap.size wo w') (by kernel_rfl) (by kernel_rfl) (by kernel_rfl) ?_ ?_
                    · (try dsimp only)
                      refine ⟨?_, ?_, ?_, ?_, ?_, ?_⟩ <;> first | (go_simp; done) | (simp [*]; done) | go_grown
                    repeat (first
                      | (refine Plan.val (v := ?_) ?_ ?_ ?_; rotate_left; (· rfl); (· (intro W hSw; (try dsimp only at hSw); go_simp; all_goals (first | (with_reducible rfl) | (constructor <;> (with_reducible rfl)) | (rw [if_neg (by omega)]; done) | (rw [if_neg (by omega)]; with_reducible rfl)))); (try simp only [Act.put, List.setIfInBounds_toArray, List.set_cons_zero, List.set_cons_succ]))
                      | (refine Plan.no ?_ ?_; (· rfl); (try simp only [Act.put, List.setIfInBounds_toArray, List.set_cons_zero, List.set_cons_succ]))
                      | (refine Plan.call (v := ?_) (f := ?_) (args := ?_) ?_ ?_ ?_ ?_; rotate_left 3; (· rfl); (· (intro W hSw; (try dsimp only at hSw); go_simp; all_goals (first | (with_reducible rfl) | (constructor <;> (with_reducible rfl)) | (rw [if_neg (by omega)]; done) | (rw [if_neg (by omega)]; with_reducible rfl)))); (· (intro W hSw; (try dsimp only at hSw); first | (go_at_call 16; ((with_reducible refine (HSE.out _ hSw.2.2.2.2.2).mono ?_); rintro _ wz ⟨rfl, hb⟩; (refine ⟨?_, ?_⟩; (· with_reducible rfl); exact ⟨kc hb hSw.1, kc hb hSw.2.1, kc hb hSw.2.2.1, kc hb hSw.2.2.2.1, kc hb hSw.2.2.2.2.1, kb hSw.2.2.2.2.2 hb⟩))))); (try simp only [Act.put, List.setIfInBounds_toArray, List.set_cons_zero, List.set_cons_succ])))
                    refine Plan.done ?_
                    intro y3 T
                    (try dsimp only at T)
                    clear hs_0 ha1_0 ha1_1 hls hla1 hns0 hns1 hks1 hns2 hks2 hna10 hna11 hka11 hna12 hka12 hB hsz
                    obtain ⟨hs_0, ha1_0, ha1_1, ha2_0, ha2_1, hB⟩ := T
                    have hsz := hB.size
                    have hls := klt hs_0
                    have hla1 := klt ha1_0
                    have hla2 := klt ha2_0
                    obtain ⟨hns0, hns1, hks1, hns2, hks2⟩ := ap0 hls
                    obtain ⟨hna10, hna11, hka11, hna12, hka12⟩ := ap0 hla1
                    obtain ⟨hna20, hna21, hka21, hna22, hka22⟩ := ap0 hla2
                    go_wp2
                    go_roundw
                    case rel => exact ⟨k + 1, by omega, by go_num, by rw [HN.out], hB⟩
                    case measure => simp [intOf] <;> omega
                  · have HN := Lib.hid (show goodK (bitsR P.s) M N tl (k + 1) = false from by rw [HST.out, hf1, hf2, hbd]; simp)
                    clear HST
                    refine wp_region_plan (fun w' => w'.cell? ⟨g, o + k * 2, none⟩ = some (.int .i64 xa) ∧ w'.cell? ⟨y1.heap.size, 0, none⟩ = some (.int .u8 r1) ∧ w'.cell? ⟨y1.heap.size, 1, none⟩ = some (.int .u8 t1) ∧ w'.cell? ⟨y2.heap.size, 0, none⟩ = some (.int .u8 r2) ∧ w'.cell? ⟨y2.heap.size, 1, none⟩ = some (.int .u8 t2) ∧ Below wo.heap.size wo w') (by kernel_rfl) (by kernel_rfl) (by kernel_rfl) ?_ ?_
                    · (try dsimp only)
                      refine ⟨?_, ?_, ?_, ?_, ?_, ?_⟩ <;> first | (go_simp; done) | (simp [*]; done) | go_grown
                    repeat (first
                      | (refine Plan.val (v := ?_) ?_ ?_ ?_; rotate_left; (· rfl); (· (intro W hSw; (try dsimp only at hSw); go_simp; all_goals (first | (with_reducible rfl) | (constructor <;> (with_reducible rfl)) | (rw [if_neg (by omega)]; done) | (rw [if_neg (by omega)]; with_reducible rfl)))); (try simp only [Act.put, List.setIfInBounds_toArray, List.set_cons_zero, List.set_cons_succ]))
                      | (refine Plan.no ?_ ?_; (· rfl); (try simp only [Act.put, List.setIfInBounds_toArray, List.set_cons_zero, List.set_cons_succ]))
                      | (refine Plan.call (v := ?_) (f := ?_) (args := ?_) ?_ ?_ ?_ ?_; rotate_left 3; (· rfl); (· (intro W hSw; (try dsimp only at hSw); go_simp; all_goals (first | (with_reducible rfl) | (constructor <;> (with_reducible rfl)) | (rw [if_neg (by omega)]; done) | (rw [if_neg (by omega)]; with_reducible rfl)))); (· (intro W hSw; (try dsimp only at hSw); first | (go_at_call 16; ((with_reducible refine (HSE.out _ hSw.2.2.2.2.2).mono ?_); rintro _ wz ⟨rfl, hb⟩; (refine ⟨?_, ?_⟩; (· with_reducible rfl); exact ⟨kc hb hSw.1, kc hb hSw.2.1, kc hb hSw.2.2.1, kc hb hSw.2.2.2.1, kc hb hSw.2.2.2.2.1, kb hSw.2.2.2.2.2 hb⟩))))); (try simp only [Act.put, List.setIfInBounds_toArray, List.set_cons_zero, List.set_cons_succ])))
                    refine Plan.done ?_
                    intro y3 T
                    (try dsimp only at T)
                    clear hs_0 ha1_0 ha1_1 hls hla1 hns0 hns1 hks1 hns2 hks2 hna10 hna11 hka11 hna12 hka12 hB hsz
                    obtain ⟨hs_0, ha1_0, ha1_1, ha2_0, ha2_1, hB⟩ := T
                    have hsz := hB.size
                    have hls := klt hs_0
                    have hla1 := klt ha1_0
                    have hla2 := klt ha2_0
                    obtain ⟨hns0, hns1, hks1, hns2, hks2⟩ := ap0 hls
                    obtain ⟨hna10, hna11, hka11, hna12, hka12⟩ := ap0 hla1
                    obtain ⟨hna20, hna21, hka21, hna22, hka22⟩ := ap0 hla2
                    go_wp2
                    go_roundw
                    case rel => exact ⟨k + 1, by omega, by go_num, by rw [HN.out], hB⟩
                    case measure => simp [intOf] <;> omega
            · have hkm : k = nT := by omega
              have hd : decide ((k : Int) < (nT : Int)) = false := decide_eq_false (by omega)
              rw [hkm, HLW2.out]
              have hd2 : decide ((nT : Int) < (nT : Int)) = false := decide_eq_false (by omega)
              clear hkm
              generalize lowM (bitsR P.s) M N = LW at *
              cases LW
              · go_wp2_with fail
                ((with_reducible refine (HL1.out _ hB).mono ?_); rintro _ y1 ⟨rfl, hb⟩)
                have hz := hb.size
                (try simp only [World.size_alloc, World.size_setCell, World.size_drew] at hz)
                have hB' : Below wo.heap.size wo y1 := by
                    refine kb ?_ hb
                    go_grown
                clear hb hz
                have hB := hB'; clear hB'
                have hsz := hB.size
                go_wp2_with fail
                ((with_reducible refine (HL2.out _ hB).mono ?_); rintro _ y2 ⟨rfl, hb⟩)
                have hz := hb.size
                (try simp only [World.size_alloc, World.size_setCell, World.size_drew] at hz)
                have hB' : Below wo.heap.size wo y2 := by
                    refine kb ?_ hb
                    go_grown
                clear hB hsz
                clear hb hz
                have hB := hB'; clear hB'
                have hsz := hB.size
                go_wp2_with fail
                ((with_reducible refine (awake9_c _).mono ?_); rintro _ y3 ⟨rfl, hb⟩)
                have hz := hb.size
                (try simp only [World.size_alloc, World.size_setCell, World.size_drew] at hz)
                have hB' : Below wo.heap.size wo y3 := by
                    refine kb ?_ hb
                    go_grown
                clear hB hsz
                clear hb hz
                have hB := hB'; clear hB'
                have hsz := hB.size
                go_wp2
                go_ret
                exact ⟨rfl, kb HBr.out hB⟩
              · go_wp2_with fail
                ((with_reducible refine (HL1.out _ hB).mono ?_); rintro _ y1 ⟨rfl, hb⟩)
                have hz := hb.size
                (try simp only [World.size_alloc, World.size_setCell, World.size_drew] at hz)
                have hB' : Below wo.heap.size wo y1 := by
                    refine kb ?_ hb
                    go_grown
                clear hb hz
                have hB := hB'; clear hB'
                have hsz := hB.size
                go_wp2_with fail
                ((with_reducible refine (HL2.out _ hB).mono ?_); rintro _ y2 ⟨rfl, hb⟩)
                have hz := hb.size
                (try simp only [World.size_alloc, World.size_setCell, World.size_drew] at hz)
                have hB' : Below wo.heap.size wo y2 := by
                    refine kb ?_ hb
                    go_grown
                clear hB hsz
                clear hb hz
                have hB := hB'; clear hB'
                have hsz := hB.size
                go_wp2_with fail
                ((with_reducible refine (awake9_c _).mono ?_); rintro _ y3 ⟨rfl, hb⟩)
                have hz := hb.size
                (try simp only [World.size_alloc, World.size_setCell, World.size_drew] at hz)
                have hB' : Below wo.heap.size wo y3 := by
                    refine kb ?_ hb
                    go_grown
                clear hB hsz
                clear hb hz
                have hB := hB'; clear hB'
                have hsz := hB.size
                go_wp2
                go_ret
                exact ⟨rfl, kb HBr.out hB⟩
end Go.Proofs.YtcilnbkmaoneaaaDoor
