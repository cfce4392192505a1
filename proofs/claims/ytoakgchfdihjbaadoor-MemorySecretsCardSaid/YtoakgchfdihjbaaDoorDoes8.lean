/-
  Layer 8's laws: one call with both memories.
-/
import Derived.Test.YtoakgchfdihjbaaDoorBoth8
set_option linter.unusedSimpArgs false
set_option linter.unusedVariables false
namespace Go.Proofs.YtoakgchfdihjbaaDoor
open Go.RowKit Go.PlainAid

/-- A call, as a value. -/
def opV (x : OpR) (lv : Value) : Value := .agg #[.int .i64 x.q, .int .i64 x.a, .int .i64 x.b, .int .u8 x.v, .int .u8 x.t, lv]
def DoesEnd (mb bb xb S0 : Nat) (w : World) (n : Nat) : Ending → World → Prop := fun e w' => e = .returned (.bool true) ∧ ∃ M L, Two mb bb xb S0 w' M L ∧ Fr bb xb S0 w w' ∧ L.length ≤ n + 61
/-- A call's cells. -/
abbrev OpC (B : Nat) (q a b v t : Int) (lv : Value) (W : World) : Prop := W.cell? ⟨B, 0, none⟩ = some (.int .i64 q) ∧ W.cell? ⟨B, 1, none⟩ = some (.int .i64 a) ∧ W.cell? ⟨B, 2, none⟩ = some (.int .i64 b) ∧ W.cell? ⟨B, 3, none⟩ = some (.int .u8 v) ∧ W.cell? ⟨B, 4, none⟩ = some (.int .u8 t) ∧ W.cell? ⟨B, 5, none⟩ = some lv
theorem opC_kg {B bb : Nat} {q a b v t : Int} {lv : Value} {W U : World} (h : OpC B q a b v t lv W) (hg : W.grownBy U (some bb)) (hne : B ≠ bb) : OpC B q a b v t lv U :=
  ⟨kg hg hne h.1, kg hg hne h.2.1, kg hg hne h.2.2.1, kg hg hne h.2.2.2.1, kg hg hne h.2.2.2.2.1, kg hg hne h.2.2.2.2.2⟩
set_option maxRecDepth 100000 in
set_option maxHeartbeats 8000000 in
theorem does_c (x : OpR) (lv : Value) (M : Int → Int × Int) (L : List Pt) (mb bb xb S0 : Nat) (w : World) (hv : HoldsB w lv x.l) (hg : 0 < x.l.length → ∀ g, lv.ownBlock = some g → g < S0 ∧ g ≠ xb ∧ g ≠ bb) (hT : Two mb bb xb S0 w M L) (hs : Spots mb bb xb S0) (hL : L.length ≤ 5000) (hbig : bigO x = false) :
    Calls Tryd.prog 11 #[.pointer (some ⟨mb, 0, none⟩), .pointer (some ⟨xb, 0, none⟩), opV x lv] w (DoesEnd mb bb xb S0 w L.length) := by
  obtain ⟨q, a, b, v, t, l⟩ := x
  unfold opV
  dsimp only at hv hg ⊢
  have hll : l.length ≤ 40 := by
    unfold bigO at hbig
    simp only [Bool.or_eq_false_iff, decide_eq_false_iff_not] at hbig
    omega
  have HT := Lib.hid hT
  have HS := Lib.hid hs
  have HV := Lib.hid hv
  have HG := Lib.hid hg
  have hsz0 := hT.size
  have hbw := hT.pm.lt
  have hmw := klt hT.pm.c0
  have hbS := hs.b
  obtain ⟨lp, lc, rfl⟩ := hv.form
  obtain ⟨n, hn⟩ : ∃ n, l.length = n := ⟨_, rfl⟩
  rw [hn] at hll ⊢
  have HN := Lib.hid hn
  have HBIG := Lib.hid hbig
  -- the contracts, at any world that has come from w by the program's call
  have HL1 := Lib.hid (fun W (hgw : w.grownBy W (some bb)) => hT.pm.laid hT.laid hgw)
  have HVV := Lib.hid (fun W (hgw : w.grownBy W (some bb)) => hv.grown hgw (fun h g hgg => (hg h g hgg).2.2))
  clear hv hg hT hs hn hbig
  cases q0 : (q == 0)
  · cases q1 : (q == 1)
    · cases q2 : (q == 2)
      · skip
        have hq0 : ¬ q = 0 := by simpa using q0
        have HC := Lib.hid (fun W (hb : Below w.heap.size w W) => readp_c M a mb bb W (HT.out.pm.below hb) (HT.out.laid.below hb))
        have HR := Lib.hid (fun W (hb : Below w.heap.size w W) vr (hR : Rm xb S0 w L vr) => readr_c L (by omega) a xb S0 vr W (hR.on hb))
        rw [read_both HT.out.good] at HC
        obtain ⟨⟨rv, rt, re⟩, hE⟩ : ∃ E, readP L a = E := ⟨_, rfl⟩
        rw [hE] at HC HR
        dsimp only at HC HR
        clear hE hq0
        obtain ⟨vr, hvr⟩ := HT.out.rm
        have HVR := Lib.hid hvr
        clear hvr
        go_enter Tryd.func11, Tryd.ntmps11
        go_wp2_with fail
        ((with_reducible refine (HC.out _ (by go_grown)).mono ?_); rintro _ u1 ⟨rfl, hb⟩)
        have T : CC u1 w.heap.size 0 1 (.int .i64 q) (.int .i64 a) ∧ CC u1 w.heap.size 2 3 (.int .i64 b) (.int .u8 v) ∧ CC u1 w.heap.size 4 5 (.int .u8 t) (.slice lp n lc) := by
            refine ⟨⟨?_, ?_⟩, ⟨?_, ?_⟩, ⟨?_, ?_⟩⟩ <;> refine kc hb ?_ <;> (go_simp; first | done | rfl)
        have hz := hb.size
        (try simp only [World.size_alloc, World.size_setCell, World.size_drew] at hz)
        have L : w.heap.size < u1.heap.size := by omega
        have hB' : Below w.heap.size w u1 := by
            refine kb ?_ hb
            go_grown
        clear hb hz
        obtain ⟨⟨ho_0, ho_1⟩, ⟨ho_2, ho_3⟩, ⟨ho_4, ho_5⟩⟩ := T
        have hlo := L; clear L
        obtain ⟨hno0, hno1, hko1, hno2, hko2⟩ := ap0 hlo
        have hB := hB'; clear hB'
        have hsz := hB.size
        go_wp2_with fail
        ((with_reducible refine (HR.out _ (by go_grown) vr HVR.out).mono ?_); rintro _ u2 ⟨rfl, hb⟩)
        have T : CC u2 w.heap.size 0 1 (.int .i64 q) (.int .i64 a) ∧ CC u2 w.heap.size 2 3 (.int .i64 b) (.int .u8 v) ∧ CC u2 w.heap.size 4 5 (.int .u8 t) (.slice lp n lc) ∧ CC u2 u1.heap.size 0 1 (.int .u8 rv) (.int .u8 rt) := by
            refine ⟨⟨?_, ?_⟩, ⟨?_, ?_⟩, ⟨?_, ?_⟩, ⟨?_, ?_⟩⟩ <;> refine kc hb ?_ <;> (go_simp; first | done | rfl)
        have hz := hb.size
        (try simp only [World.size_alloc, World.size_setCell, World.size_drew] at hz)
        have L : w.heap.size < u2.heap.size ∧ u1.heap.size < u2.heap.size := by omega
        have hB' : Below w.heap.size w u2 := by
            refine kb ?_ hb
            go_grown
        clear ho_0 ho_1 ho_2 ho_3 ho_4 ho_5 hlo hno0 hno1 hko1 hno2 hko2 hB hsz
        clear hb hz
        obtain ⟨⟨ho_0, ho_1⟩, ⟨ho_2, ho_3⟩, ⟨ho_4, ho_5⟩, ⟨hc_0, hc_1⟩⟩ := T
        obtain ⟨hlo, hlc⟩ := L
        obtain ⟨hno0, hno1, hko1, hno2, hko2⟩ := ap0 hlo
        obtain ⟨hnc0, hnc1, hkc1, hnc2, hkc2⟩ := ap0 hlc
        have hB := hB'; clear hB'
        have hsz := hB.size
        go_wp2
        go_ret
        exact ⟨rfl, M, L, HT.out.below (by go_grown), Fr.of_below (by go_grown) hsz0, by omega⟩
      · skip
        obtain ⟨hb1, hb2, hb3⟩ := write_both HT.out.good a v t
        have HP0 := Lib.hid HT.out.pm
        have HC := Lib.hid (fun W (hgw : w.grownBy W (some bb)) (hP : Pm mb bb W M) => writep_c M a v t mb bb W hP (HL1.out W hgw))
        have HR := Lib.hid (fun W (hgw : w.grownBy W (some bb)) vr (hR : Rm xb S0 W L vr) => writer_c L (by omega) a v t xb S0 vr W hR)
        rw [hb1] at HC
        obtain ⟨E, hE⟩ : ∃ E, (writeP L ⟨a, v, t⟩).1 = E := ⟨_, rfl⟩
        rw [hE] at HC HR
        obtain ⟨M1, hM1⟩ : ∃ M1, (writeM M a v t).2 = M1 := ⟨_, rfl⟩
        rw [hM1] at HC hb2
        obtain ⟨L1, hL1⟩ : ∃ L1, (writeP L ⟨a, v, t⟩).2 = L1 := ⟨_, rfl⟩
        rw [hL1] at HR hb2 hb3
        have HB2 := Lib.hid (And.intro hb2 hb3)
        clear hb1 hb2 hb3 hE hM1 hL1
        have hne : w.heap.size ≠ bb := by omega
        go_enter Tryd.func11, Tryd.ntmps11
        go_wp2_with fail
        refine wp_region_planX 11 5 (fun bo W => OpC w.heap.size q a b v t (.slice lp n lc) W ∧ (w.grownBy W (some bb) ∧ Pm mb bb W (bif bo then M1 else M))) (by decide) (by kernel_rfl) (by kernel_rfl) (by kernel_rfl) (by kernel_rfl) ?_ ?_
        · (try dsimp only)
          refine ⟨⟨?_, ?_, ?_, ?_, ?_, ?_⟩, grown_below (by go_grown), HP0.out.below (by go_grown)⟩ <;> (go_simp; done)
        (try simp only [List.append_eq, List.cons_append, List.nil_append, List.toList_toArray, List.take_succ_cons, List.take_zero, List.drop_succ_cons, List.drop_zero])
        repeat (first
          | (refine PlanX.val (v := ?_) (by decide) ?_ ?_ ?_; rotate_left; (· rfl); (· (intro bo W hSw; (try dsimp only [OpC] at hSw); go_simp; all_goals (first | (with_reducible rfl) | (constructor <;> (with_reducible rfl))))); (try simp only [Act.put, List.setIfInBounds_toArray, List.set_cons_zero, List.set_cons_succ]))
          | (refine PlanX.turn (v := .int .i64 E) (f := ?_) (args := ?_) (by decide) ?_ ?_ ?_ ?_; rotate_left 2; (· rfl); (· (intro W hSw; (try dsimp only [OpC] at hSw); go_simp; all_goals (first | (with_reducible rfl) | (constructor <;> (with_reducible rfl))))); (· (intro W hSw; exact (HC.out W hSw.2.1 hSw.2.2).mono fun e w' ⟨h1, h2, h3⟩ => ⟨h1, opC_kg hSw.1 h2 hne, hSw.2.1.trans h2, h3⟩)); (try simp only [Act.put, List.setIfInBounds_toArray, List.set_cons_zero, List.set_cons_succ])))
        refine PlanX.done ?_
        intro U T
        obtain ⟨⟨-, -, -, -, -, -⟩, hgU, hPU⟩ := T
        obtain ⟨vr, hvr⟩ := HT.out.rm
        have HGU := Lib.hid hgU
        have HPU := Lib.hid (show Pm mb bb U M1 from hPU)
        have HRU := Lib.hid (HR.out U hgU vr (hvr.grown hgU HS.out.xb HS.out.b))
        clear hgU hPU hvr
        go_wp2_with fail
        refine (HRU.out).mono ?_
        rintro _ u ⟨rfl, hk, hr⟩
        have HF := Lib.hid (HT.out.next HS.out HGU.out HPU.out hk hr HB2.out.1)
        clear hk hr
        go_wp2
        go_ret
        exact ⟨rfl, M1, L1, HF.out.1, HF.out.2, by have := HB2.out.2; omega⟩
    · have hcnt : (if oneB a b = true then (b - a + 1).toNat else 0) ≤ 61 := by
        have h := HBIG.out
        unfold bigO at h
        dsimp only at h
        simp only [Bool.or_eq_false_iff, Bool.and_eq_false_iff, decide_eq_false_iff_not, q1] at h
        split
        · rename_i ho
          rcases h.2 with (h1 | h1) | h1
          · cases h1
          · rw [ho] at h1; cases h1
          · omega
        · omega
      have hcnt2 : oneB a b = true → L.length + (b - a + 1).toNat ≤ 100000 := fun ho => by rw [if_pos ho] at hcnt; omega
      have HCNT := Lib.hid (And.intro hcnt hcnt2)
      clear hcnt hcnt2
      obtain ⟨hb1, hb2, hb3⟩ := label_both HT.out.good a b t
      have HP0 := Lib.hid HT.out.pm
      have HC := Lib.hid (fun W (hgw : w.grownBy W (some bb)) (hP : Pm mb bb W M) => labelp_c M a b t mb bb W hP (HL1.out W hgw))
      have HR := Lib.hid (fun W (hgw : w.grownBy W (some bb)) vr (hR : Rm xb S0 W L vr) => labelr_c L a b t HCNT.out.2 xb S0 vr W hR)
      rw [hb1] at HC
      obtain ⟨E, hE⟩ : ∃ E, (labelP L a b t).1 = E := ⟨_, rfl⟩
      rw [hE] at HC HR
      obtain ⟨M1, hM1⟩ : ∃ M1, (labelMp M a b t).2 = M1 := ⟨_, rfl⟩
      rw [hM1] at HC hb2
      obtain ⟨L1, hL1⟩ : ∃ L1, (labelP L a b t).2 = L1 := ⟨_, rfl⟩
      rw [hL1] at HR hb2 hb3
      have HB2 := Lib.hid (And.intro hb2 hb3)
      clear hb1 hb2 hb3 hE hM1 hL1
      have hne : w.heap.size ≠ bb := by omega
      go_enter Tryd.func11, Tryd.ntmps11
      go_wp2_with fail
      refine wp_region_planX 17 8 (fun bo W => OpC w.heap.size q a b v t (.slice lp n lc) W ∧ (w.grownBy W (some bb) ∧ Pm mb bb W (bif bo then M1 else M))) (by decide) (by kernel_rfl) (by kernel_rfl) (by kernel_rfl) (by kernel_rfl) ?_ ?_
      · (try dsimp only)
        refine ⟨⟨?_, ?_, ?_, ?_, ?_, ?_⟩, grown_below (by go_grown), HP0.out.below (by go_grown)⟩ <;> (go_simp; done)
      (try simp only [List.append_eq, List.cons_append, List.nil_append, List.toList_toArray, List.take_succ_cons, List.take_zero, List.drop_succ_cons, List.drop_zero])
      repeat (first
        | (refine PlanX.val (v := ?_) (by decide) ?_ ?_ ?_; rotate_left; (· rfl); (· (intro bo W hSw; (try dsimp only [OpC] at hSw); go_simp; all_goals (first | (with_reducible rfl) | (constructor <;> (with_reducible rfl))))); (try simp only [Act.put, List.setIfInBounds_toArray, List.set_cons_zero, List.set_cons_succ]))
        | (refine PlanX.turn (v := .int .i64 E) (f := ?_) (args := ?_) (by decide) ?_ ?_ ?_ ?_; rotate_left 2; (· rfl); (· (intro W hSw; (try dsimp only [OpC] at hSw); go_simp; all_goals (first | (with_reducible rfl) | (constructor <;> (with_reducible rfl))))); (· (intro W hSw; exact (HC.out W hSw.2.1 hSw.2.2).mono fun e w' ⟨h1, h2, h3⟩ => ⟨h1, opC_kg hSw.1 h2 hne, hSw.2.1.trans h2, h3⟩)); (try simp only [Act.put, List.setIfInBounds_toArray, List.set_cons_zero, List.set_cons_succ])))
      refine PlanX.done ?_
      intro U T
      obtain ⟨⟨-, -, -, -, -, -⟩, hgU, hPU⟩ := T
      obtain ⟨vr, hvr⟩ := HT.out.rm
      have HGU := Lib.hid hgU
      have HPU := Lib.hid (show Pm mb bb U M1 from hPU)
      have HRU := Lib.hid (HR.out U hgU vr (hvr.grown hgU HS.out.xb HS.out.b))
      clear hgU hPU hvr
      go_wp2_with fail
      refine (HRU.out).mono ?_
      rintro _ u ⟨rfl, hk, hr⟩
      have HF := Lib.hid (HT.out.next HS.out HGU.out HPU.out hk hr HB2.out.1)
      clear hk hr
      go_wp2
      go_ret
      exact ⟨rfl, M1, L1, HF.out.1, HF.out.2, by have := HB2.out.2; have := HCNT.out.1; omega⟩
  · skip
    obtain ⟨hb1, hb2, hb3⟩ := load_both HT.out.good a l
    have HP0 := Lib.hid HT.out.pm
    have HC := Lib.hid (fun W (hgw : w.grownBy W (some bb)) (hP : Pm mb bb W M) => loadp_c M a l (by have := HN.out; omega) mb bb (.slice lp n lc) W hP (HL1.out W hgw) (by have := HVV.out W hgw; rw [HN.out] at this; exact this) (fun h g hgg => (HG.out h g (by rw [HN.out]; exact hgg)).2.2))
    have HR := Lib.hid (fun W (hgw : w.grownBy W (some bb)) vr (hR : Rm xb S0 W L vr) => loadr_c L (by omega) a l (by have := HN.out; omega) xb S0 vr (.slice lp n lc) W hR (by have := HVV.out W hgw; rw [HN.out] at this; exact this) (fun h g hgg => ⟨(HG.out h g (by rw [HN.out]; exact hgg)).1, (HG.out h g (by rw [HN.out]; exact hgg)).2.1⟩))
    rw [hb1] at HC
    obtain ⟨E, hE⟩ : ∃ E, (loadP L a l).1 = E := ⟨_, rfl⟩
    rw [hE] at HC HR
    obtain ⟨M1, hM1⟩ : ∃ M1, (loadMp M a l).2 = M1 := ⟨_, rfl⟩
    rw [hM1] at HC hb2
    obtain ⟨L1, hL1⟩ : ∃ L1, (loadP L a l).2 = L1 := ⟨_, rfl⟩
    rw [hL1] at HR hb2 hb3
    have HB2 := Lib.hid (And.intro hb2 hb3)
    clear hb1 hb2 hb3 hE hM1 hL1
    have hne : w.heap.size ≠ bb := by omega
    go_enter Tryd.func11, Tryd.ntmps11
    go_wp2_with fail
    refine wp_region_planX 11 5 (fun bo W => OpC w.heap.size q a b v t (.slice lp n lc) W ∧ (w.grownBy W (some bb) ∧ Pm mb bb W (bif bo then M1 else M))) (by decide) (by kernel_rfl) (by kernel_rfl) (by kernel_rfl) (by kernel_rfl) ?_ ?_
    · (try dsimp only)
      refine ⟨⟨?_, ?_, ?_, ?_, ?_, ?_⟩, grown_below (by go_grown), HP0.out.below (by go_grown)⟩ <;> (go_simp; done)
    (try simp only [List.append_eq, List.cons_append, List.nil_append, List.toList_toArray, List.take_succ_cons, List.take_zero, List.drop_succ_cons, List.drop_zero])
    repeat (first
      | (refine PlanX.val (v := ?_) (by decide) ?_ ?_ ?_; rotate_left; (· rfl); (· (intro bo W hSw; (try dsimp only [OpC] at hSw); go_simp; all_goals (first | (with_reducible rfl) | (constructor <;> (with_reducible rfl))))); (try simp only [Act.put, List.setIfInBounds_toArray, List.set_cons_zero, List.set_cons_succ]))
      | (refine PlanX.turn (v := .int .i64 E) (f := ?_) (args := ?_) (by decide) ?_ ?_ ?_ ?_; rotate_left 2; (· rfl); (· (intro W hSw; (try dsimp only [OpC] at hSw); go_simp; all_goals (first | (with_reducible rfl) | (constructor <;> (with_reducible rfl))))); (· (intro W hSw; exact (HC.out W hSw.2.1 hSw.2.2).mono fun e w' ⟨h1, h2, h3⟩ => ⟨h1, opC_kg hSw.1 h2 hne, hSw.2.1.trans h2, h3⟩)); (try simp only [Act.put, List.setIfInBounds_toArray, List.set_cons_zero, List.set_cons_succ])))
    refine PlanX.done ?_
    intro U T
    obtain ⟨⟨-, -, -, -, -, -⟩, hgU, hPU⟩ := T
    obtain ⟨vr, hvr⟩ := HT.out.rm
    have HGU := Lib.hid hgU
    have HPU := Lib.hid (show Pm mb bb U M1 from hPU)
    have HRU := Lib.hid (HR.out U hgU vr (hvr.grown hgU HS.out.xb HS.out.b))
    clear hgU hPU hvr
    go_wp2_with fail
    refine (HRU.out).mono ?_
    rintro _ u ⟨rfl, hk, hr⟩
    have HF := Lib.hid (HT.out.next HS.out HGU.out HPU.out hk hr HB2.out.1)
    clear hk hr
    go_wp2
    go_ret
    exact ⟨rfl, M1, L1, HF.out.1, HF.out.2, by have := HB2.out.2; have := HN.out; omega⟩
end Go.Proofs.YtoakgchfdihjbaaDoor
