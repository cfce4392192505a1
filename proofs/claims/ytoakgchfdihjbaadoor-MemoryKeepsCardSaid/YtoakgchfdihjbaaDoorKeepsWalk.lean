/-
  MemoryKeeps: its walk.
-/
import Derived.Test.YtoakgchfdihjbaaDoorLaw8
set_option linter.unusedSimpArgs false
set_option linter.unusedVariables false
namespace Go.Proofs.YtoakgchfdihjbaaDoor
open Go.RowKit Go.PlainAid

/-- The calls of MemoryKeeps, by their answers' names, and what these are. -/
theorem keeps_facts (p q av at_ bv bt : Int) : ∃ (E F wv wt xv xt yv yt : Int) (M1 N2 : Int → Int × Int),
    (∀ W mb bb, Pm mb bb W zeroM → Laid W → Calls Tryd.prog 18 #[.pointer (some ⟨mb, 0, none⟩), .int .i64 p, .agg #[.int .u8 av, .int .u8 at_]] W (MemEnd mb bb W E M1)) ∧
    (∀ W mb bb, Pm mb bb W M1 → Laid W → Calls Tryd.prog 12 #[.pointer (some ⟨mb, 0, none⟩), .int .i64 q] W fun e w' => e = .returned (.tuple #[.agg #[.int .u8 wv, .int .u8 wt], .int .i64 F]) ∧ Below W.heap.size W w') ∧
    (∀ W mb bb, Pm mb bb W M1 → Laid W → Calls Tryd.prog 18 #[.pointer (some ⟨mb, 0, none⟩), .int .i64 q, .agg #[.int .u8 bv, .int .u8 bt]] W (MemEnd mb bb W F N2)) ∧
    (∀ W mb bb, Pm mb bb W N2 → Laid W → Calls Tryd.prog 12 #[.pointer (some ⟨mb, 0, none⟩), .int .i64 q] W fun e w' => e = .returned (.tuple #[.agg #[.int .u8 xv, .int .u8 xt], .int .i64 F]) ∧ Below W.heap.size W w') ∧
    (∀ W mb bb, Pm mb bb W N2 → Laid W → Calls Tryd.prog 12 #[.pointer (some ⟨mb, 0, none⟩), .int .i64 p] W fun e w' => e = .returned (.tuple #[.agg #[.int .u8 yv, .int .u8 yt], .int .i64 E]) ∧ Below W.heap.size W w') ∧
    ((F == 0) = false ∨ (F = 0 ∧ ramB q = true ∧ bv = xv ∧ bt = xt) ∨ (F = 0 ∧ ramB q = false ∧ wv = xv ∧ wt = xt)) ∧
    (p ≠ q → (E == 0) = false ∨ (E = 0 ∧ ramB p = false) ∨ (E = 0 ∧ ramB p = true ∧ av = yv ∧ at_ = yt)) := by
  refine ⟨(prM zeroM p).e, (prM (writeM zeroM p av at_).2 q).e, (prM (writeM zeroM p av at_).2 q).v, (prM (writeM zeroM p av at_).2 q).t, (prM (writeM (writeM zeroM p av at_).2 q bv bt).2 q).v, (prM (writeM (writeM zeroM p av at_).2 q bv bt).2 q).t, (prM (writeM (writeM zeroM p av at_).2 q bv bt).2 p).v, (prM (writeM (writeM zeroM p av at_).2 q bv bt).2 p).t, (writeM zeroM p av at_).2, (writeM (writeM zeroM p av at_).2 q bv bt).2, ?_, ?_, ?_, ?_, ?_, ?_, ?_⟩
  · intro W mb bb hP hL
    rw [← writeM_e zeroM zeroM p av at_]
    exact writep_c zeroM p av at_ mb bb W hP hL
  · intro W mb bb hP hL
    exact readp_c _ q mb bb W hP hL
  · intro W mb bb hP hL
    rw [← writeM_e (writeM zeroM p av at_).2 (writeM zeroM p av at_).2 q bv bt]
    exact writep_c _ q bv bt mb bb W hP hL
  · intro W mb bb hP hL
    rw [prM_e (writeM zeroM p av at_).2 (writeM (writeM zeroM p av at_).2 q bv bt).2 q]
    exact readp_c _ q mb bb W hP hL
  · intro W mb bb hP hL
    rw [prM_e zeroM (writeM (writeM zeroM p av at_).2 q bv bt).2 p]
    exact readp_c _ p mb bb W hP hL
  · rcases read_write (writeM zeroM p av at_).2 q bv bt with h | ⟨h1, h2, h3, h4⟩ | ⟨h1, h2, h3, h4⟩
    · exact .inl h
    · exact .inr (.inl ⟨h1, h2, h3.symm, h4.symm⟩)
    · exact .inr (.inr ⟨h1, h2, h3.symm, h4.symm⟩)
  · intro h
    rcases keeps_p p q av at_ bv bt h with h | h | ⟨h1, h2, h3, h4⟩
    · exact .inl h
    · exact .inr (.inl h)
    · exact .inr (.inr ⟨h1, h2, h3.symm, h4.symm⟩)
set_option maxRecDepth 100000 in
set_option maxHeartbeats 4000000 in
theorem keeps_walk (p q av at_ bv bt : Int) (w : World) (hL : Laid w) :
    Calls Tryd.prog 5 #[.agg #[.int .i64 p, .int .i64 q], .agg #[.int .u8 av, .int .u8 at_], .agg #[.int .u8 bv, .int .u8 bt]] w fun e w' => e = .returned (.bool true) ∧ Below w.heap.size w w' := by
  obtain ⟨E, F, wv, wt, xv, xt, yv, yt, M1, N2, c1, c2, c3, c4, c5, m1, m2⟩ := keeps_facts p q av at_ bv bt
  have hlt := hL.lt
  have HL := Lib.hid (fun W (h : Below w.heap.size w W) => hL.below h)
  have HC1 := Lib.hid (fun W mb bb (h : Pm mb bb W zeroM) (hb : Below w.heap.size w W) => c1 W mb bb h (hL.below hb))
  have HC2 := Lib.hid (fun W mb bb (h : Pm mb bb W M1) (hb : Below w.heap.size w W) => c2 W mb bb h (hL.below hb))
  have HC3 := Lib.hid (fun W mb bb (h : Pm mb bb W M1) (hb : Below w.heap.size w W) => c3 W mb bb h (hL.below hb))
  have HC4 := Lib.hid (fun W mb bb (h : Pm mb bb W N2) (hb : Below w.heap.size w W) => c4 W mb bb h (hL.below hb))
  have HC5 := Lib.hid (fun W mb bb (h : Pm mb bb W N2) (hb : Below w.heap.size w W) => c5 W mb bb h (hL.below hb))
  have HR1 := Lib.hid (fun W => ramr_c p W)
  have HR2 := Lib.hid (fun W => ramr_c q W)
  have HA := Lib.hid (fun W (h : Below w.heap.size w W) => awake_c W (hL.below h))
  have HM1 := Lib.hid m1
  have HM2 := Lib.hid m2
  clear c1 c2 c3 c4 c5 m1 m2 hL
  generalize ramB p = Rp at *
  generalize ramB q = Rq at *
  go_enter Tryd.func5, Tryd.ntmps5
  go_wp2_with fail
  ((with_reducible refine (new_x _ (by simp)).mono ?_); rintro _ u1 ⟨mb, bb, rfl, hb, hP, hmb, hbb⟩)
  have hs_u1 := Lib.hid hb
  have T : CC u1 w.heap.size 0 1 (.int .i64 p) (.int .i64 q) ∧ CC u1 (w.heap.size + 1) 0 1 (.int .u8 av) (.int .u8 at_) ∧ CC u1 (w.heap.size + 1 + 1) 0 1 (.int .u8 bv) (.int .u8 bt) := by
      refine ⟨⟨?_, ?_⟩, ⟨?_, ?_⟩, ⟨?_, ?_⟩⟩ <;> refine kc hb ?_ <;> (go_simp; first | done | rfl)
  have hz := hb.size
  (try simp only [World.size_alloc, World.size_setCell, World.size_drew] at hz)
  have L : w.heap.size < u1.heap.size ∧ w.heap.size + 1 < u1.heap.size ∧ w.heap.size + 1 + 1 < u1.heap.size := by omega
  have hB' : Below w.heap.size w u1 := by
      refine kb ?_ hb
      go_grown
  clear hb hz
  obtain ⟨⟨hpq_0, hpq_1⟩, ⟨ha_0, ha_1⟩, ⟨hb_0, hb_1⟩⟩ := T
  obtain ⟨hlpq, hla, hlb⟩ := L
  obtain ⟨hnpq0, hnpq1, hkpq1, hnpq2, hkpq2⟩ := ap0 hlpq
  obtain ⟨hna0, hka1⟩ := ap1 hla
  have hnb0 : ¬ (w.heap.size + 1 + 1 = u1.heap.size) := by omega
  have hkb1 : w.heap.size + 1 < u1.heap.size := by omega
  have hB := hB'; clear hB'
  have hsz := hB.size
  have HP1 := Lib.hid hP
  simp only [World.size_alloc] at hmb hbb
  clear hP
  go_wp2_with fail
  ((with_reducible refine (HC1.out _ _ _ HP1.out hB).mono ?_); rintro _ u2 ⟨rfl, hb, hP⟩)
  have hs_u2 := Lib.hid hb
  have T : CC u2 w.heap.size 0 1 (.int .i64 p) (.int .i64 q) ∧ CC u2 (w.heap.size + 1) 0 1 (.int .u8 av) (.int .u8 at_) ∧ CC u2 (w.heap.size + 1 + 1) 0 1 (.int .u8 bv) (.int .u8 bt) := by
      refine ⟨⟨?_, ?_⟩, ⟨?_, ?_⟩, ⟨?_, ?_⟩⟩ <;> (refine kg hb ?_ ?_; (· omega); (· (go_simp; first | done | rfl)))
  have hz := hb.size
  (try simp only [World.size_alloc, World.size_setCell, World.size_drew] at hz)
  have L : w.heap.size < u2.heap.size ∧ w.heap.size + 1 < u2.heap.size ∧ w.heap.size + 1 + 1 < u2.heap.size := by omega
  have hB' : Below w.heap.size w u2 := by
      refine below_grown2 ?_ hb (by omega)
      go_grown
  clear hpq_0 hpq_1 ha_0 ha_1 hb_0 hb_1 hlpq hla hlb hnpq0 hnpq1 hkpq1 hnpq2 hkpq2 hna0 hka1 hnb0 hkb1 hB hsz
  clear hb hz
  obtain ⟨⟨hpq_0, hpq_1⟩, ⟨ha_0, ha_1⟩, ⟨hb_0, hb_1⟩⟩ := T
  obtain ⟨hlpq, hla, hlb⟩ := L
  obtain ⟨hnpq0, hnpq1, hkpq1, hnpq2, hkpq2⟩ := ap0 hlpq
  obtain ⟨hna0, hka1⟩ := ap1 hla
  have hnb0 : ¬ (w.heap.size + 1 + 1 = u2.heap.size) := by omega
  have hkb1 : w.heap.size + 1 < u2.heap.size := by omega
  have hB := hB'; clear hB'
  have hsz := hB.size
  have HP2 := Lib.hid hP
  have hlbb := hP.lt
  have hlmb := klt hP.c0
  clear hP HP1
  go_wp2_with fail
  ((with_reducible refine (HC2.out _ _ _ HP2.out hB).mono ?_); rintro _ u3 ⟨rfl, hb⟩)
  have hs_u3 := Lib.hid hb
  have T : CC u3 w.heap.size 0 1 (.int .i64 p) (.int .i64 q) ∧ CC u3 (w.heap.size + 1) 0 1 (.int .u8 av) (.int .u8 at_) ∧ CC u3 (w.heap.size + 1 + 1) 0 1 (.int .u8 bv) (.int .u8 bt) := by
      refine ⟨⟨?_, ?_⟩, ⟨?_, ?_⟩, ⟨?_, ?_⟩⟩ <;> refine kc hb ?_ <;> (go_simp; first | done | rfl)
  have hz := hb.size
  (try simp only [World.size_alloc, World.size_setCell, World.size_drew] at hz)
  have L : w.heap.size < u3.heap.size ∧ w.heap.size + 1 < u3.heap.size ∧ w.heap.size + 1 + 1 < u3.heap.size := by omega
  have hB' : Below w.heap.size w u3 := by
      refine kb ?_ hb
      go_grown
  clear hpq_0 hpq_1 ha_0 ha_1 hb_0 hb_1 hlpq hla hlb hnpq0 hnpq1 hkpq1 hnpq2 hkpq2 hna0 hka1 hnb0 hkb1 hB hsz
  clear hb hz
  obtain ⟨⟨hpq_0, hpq_1⟩, ⟨ha_0, ha_1⟩, ⟨hb_0, hb_1⟩⟩ := T
  obtain ⟨hlpq, hla, hlb⟩ := L
  obtain ⟨hnpq0, hnpq1, hkpq1, hnpq2, hkpq2⟩ := ap0 hlpq
  obtain ⟨hna0, hka1⟩ := ap1 hla
  have hnb0 : ¬ (w.heap.size + 1 + 1 = u3.heap.size) := by omega
  have hkb1 : w.heap.size + 1 < u3.heap.size := by omega
  have hB := hB'; clear hB'
  have hsz := hB.size
  have HP3 := Lib.hid (HP2.out.below (kb (by go_grown) hs_u3.out))
  have hz3 : w.heap.size + 1 + 1 + 1 ≤ u3.heap.size ∧ mb < u3.heap.size ∧ bb < u3.heap.size := ⟨by omega, klt HP3.out.c0, HP3.out.lt⟩
  clear HP2
  go_wp2_with fail
  ((with_reducible refine (clone_x M1 _ _ _ (HP3.out.below (by go_grown))).mono ?_); rintro _ u4 ⟨nb, nbb, rfl, hb, hQ, hnb, hnbb⟩)
  have hs_u4 := Lib.hid hb
  have T : CC u4 w.heap.size 0 1 (.int .i64 p) (.int .i64 q) ∧ CC u4 (w.heap.size + 1) 0 1 (.int .u8 av) (.int .u8 at_) ∧ CC u4 (w.heap.size + 1 + 1) 0 1 (.int .u8 bv) (.int .u8 bt) ∧ CC u4 u3.heap.size 0 1 (.int .u8 wv) (.int .u8 wt) := by
      refine ⟨⟨?_, ?_⟩, ⟨?_, ?_⟩, ⟨?_, ?_⟩, ⟨?_, ?_⟩⟩ <;> refine kc hb ?_ <;> (go_simp; first | done | rfl)
  have hz := hb.size
  (try simp only [World.size_alloc, World.size_setCell, World.size_drew] at hz)
  have L : w.heap.size < u4.heap.size ∧ w.heap.size + 1 < u4.heap.size ∧ w.heap.size + 1 + 1 < u4.heap.size ∧ u3.heap.size < u4.heap.size := by omega
  have hB' : Below w.heap.size w u4 := by
      refine kb ?_ hb
      go_grown
  clear hpq_0 hpq_1 ha_0 ha_1 hb_0 hb_1 hlpq hla hlb hnpq0 hnpq1 hkpq1 hnpq2 hkpq2 hna0 hka1 hnb0 hkb1 hB hsz
  clear hb hz
  obtain ⟨⟨hpq_0, hpq_1⟩, ⟨ha_0, ha_1⟩, ⟨hb_0, hb_1⟩, ⟨hs_0, hs_1⟩⟩ := T
  obtain ⟨hlpq, hla, hlb, hls⟩ := L
  obtain ⟨hnpq0, hnpq1, hkpq1, hnpq2, hkpq2⟩ := ap0 hlpq
  obtain ⟨hna0, hka1⟩ := ap1 hla
  have hnb0 : ¬ (w.heap.size + 1 + 1 = u4.heap.size) := by omega
  have hkb1 : w.heap.size + 1 < u4.heap.size := by omega
  obtain ⟨hns0, hns1, hks1, hns2, hks2⟩ := ap0 hls
  have hB := hB'; clear hB'
  have hsz := hB.size
  have HP4 := Lib.hid (HP3.out.below (kb (by go_grown) hs_u4.out))
  have HQ4 := Lib.hid hQ
  simp only [World.size_alloc, World.size_setCell, World.size_drew] at hnb hnbb
  clear hQ HP3
  go_wp2_with fail
  ((with_reducible refine (HC3.out _ _ _ HQ4.out hB).mono ?_); rintro _ u5 ⟨rfl, hb, hP⟩)
  have hs_u5 := Lib.hid hb
  have T : CC u5 w.heap.size 0 1 (.int .i64 p) (.int .i64 q) ∧ CC u5 (w.heap.size + 1) 0 1 (.int .u8 av) (.int .u8 at_) ∧ CC u5 (w.heap.size + 1 + 1) 0 1 (.int .u8 bv) (.int .u8 bt) ∧ CC u5 u3.heap.size 0 1 (.int .u8 wv) (.int .u8 wt) := by
      refine ⟨⟨?_, ?_⟩, ⟨?_, ?_⟩, ⟨?_, ?_⟩, ⟨?_, ?_⟩⟩ <;> (refine kg hb ?_ ?_; (· omega); (· (go_simp; first | done | rfl)))
  have hz := hb.size
  (try simp only [World.size_alloc, World.size_setCell, World.size_drew] at hz)
  have L : w.heap.size < u5.heap.size ∧ w.heap.size + 1 < u5.heap.size ∧ w.heap.size + 1 + 1 < u5.heap.size ∧ u3.heap.size < u5.heap.size := by omega
  have hB' : Below w.heap.size w u5 := by
      refine below_grown2 ?_ hb (by omega)
      go_grown
  clear hpq_0 hpq_1 ha_0 ha_1 hb_0 hb_1 hs_0 hs_1 hlpq hla hlb hls hnpq0 hnpq1 hkpq1 hnpq2 hkpq2 hna0 hka1 hnb0 hkb1 hns0 hns1 hks1 hns2 hks2 hB hsz
  clear hb hz
  obtain ⟨⟨hpq_0, hpq_1⟩, ⟨ha_0, ha_1⟩, ⟨hb_0, hb_1⟩, ⟨hs_0, hs_1⟩⟩ := T
  obtain ⟨hlpq, hla, hlb, hls⟩ := L
  obtain ⟨hnpq0, hnpq1, hkpq1, hnpq2, hkpq2⟩ := ap0 hlpq
  obtain ⟨hna0, hka1⟩ := ap1 hla
  have hnb0 : ¬ (w.heap.size + 1 + 1 = u5.heap.size) := by omega
  have hkb1 : w.heap.size + 1 < u5.heap.size := by omega
  obtain ⟨hns0, hns1, hks1, hns2, hks2⟩ := ap0 hls
  have hB := hB'; clear hB'
  have hsz := hB.size
  have HQ5 := Lib.hid hP
  have HP5 := Lib.hid (HP4.out.other hs_u5.out (by omega) (by omega))
  clear hP HP4 HQ4
  go_wp2_with fail
  ((with_reducible refine (HC4.out _ _ _ HQ5.out hB).mono ?_); rintro _ u6 ⟨rfl, hb⟩)
  have hs_u6 := Lib.hid hb
  have T : CC u6 w.heap.size 0 1 (.int .i64 p) (.int .i64 q) ∧ CC u6 (w.heap.size + 1) 0 1 (.int .u8 av) (.int .u8 at_) ∧ CC u6 (w.heap.size + 1 + 1) 0 1 (.int .u8 bv) (.int .u8 bt) ∧ CC u6 u3.heap.size 0 1 (.int .u8 wv) (.int .u8 wt) := by
      refine ⟨⟨?_, ?_⟩, ⟨?_, ?_⟩, ⟨?_, ?_⟩, ⟨?_, ?_⟩⟩ <;> refine kc hb ?_ <;> (go_simp; first | done | rfl)
  have hz := hb.size
  (try simp only [World.size_alloc, World.size_setCell, World.size_drew] at hz)
  have L : w.heap.size < u6.heap.size ∧ w.heap.size + 1 < u6.heap.size ∧ w.heap.size + 1 + 1 < u6.heap.size ∧ u3.heap.size < u6.heap.size := by omega
  have hB' : Below w.heap.size w u6 := by
      refine kb ?_ hb
      go_grown
  clear hpq_0 hpq_1 ha_0 ha_1 hb_0 hb_1 hs_0 hs_1 hlpq hla hlb hls hnpq0 hnpq1 hkpq1 hnpq2 hkpq2 hna0 hka1 hnb0 hkb1 hns0 hns1 hks1 hns2 hks2 hB hsz
  clear hb hz
  obtain ⟨⟨hpq_0, hpq_1⟩, ⟨ha_0, ha_1⟩, ⟨hb_0, hb_1⟩, ⟨hs_0, hs_1⟩⟩ := T
  obtain ⟨hlpq, hla, hlb, hls⟩ := L
  obtain ⟨hnpq0, hnpq1, hkpq1, hnpq2, hkpq2⟩ := ap0 hlpq
  obtain ⟨hna0, hka1⟩ := ap1 hla
  have hnb0 : ¬ (w.heap.size + 1 + 1 = u6.heap.size) := by omega
  have hkb1 : w.heap.size + 1 < u6.heap.size := by omega
  obtain ⟨hns0, hns1, hks1, hns2, hks2⟩ := ap0 hls
  have hB := hB'; clear hB'
  have hsz := hB.size
  have HP6 := Lib.hid (HP5.out.below (kb (by go_grown) hs_u6.out))
  have HQ6 := Lib.hid (HQ5.out.below (kb (by go_grown) hs_u6.out))
  clear HP5 HQ5
  go_wp2_with fail
  ((with_reducible refine (HC5.out _ _ _ (HQ6.out.below (by go_grown)) (by go_grown)).mono ?_); rintro _ u7 ⟨rfl, hb⟩)
  have hs_u7 := Lib.hid hb
  have T : CC u7 w.heap.size 0 1 (.int .i64 p) (.int .i64 q) ∧ CC u7 (w.heap.size + 1) 0 1 (.int .u8 av) (.int .u8 at_) ∧ CC u7 (w.heap.size + 1 + 1) 0 1 (.int .u8 bv) (.int .u8 bt) ∧ CC u7 u3.heap.size 0 1 (.int .u8 wv) (.int .u8 wt) ∧ CC u7 u6.heap.size 0 1 (.int .u8 xv) (.int .u8 xt) := by
      refine ⟨⟨?_, ?_⟩, ⟨?_, ?_⟩, ⟨?_, ?_⟩, ⟨?_, ?_⟩, ⟨?_, ?_⟩⟩ <;> refine kc hb ?_ <;> (go_simp; first | done | rfl)
  have hz := hb.size
  (try simp only [World.size_alloc, World.size_setCell, World.size_drew] at hz)
  have L : w.heap.size < u7.heap.size ∧ w.heap.size + 1 < u7.heap.size ∧ w.heap.size + 1 + 1 < u7.heap.size ∧ u3.heap.size < u7.heap.size ∧ u6.heap.size < u7.heap.size := by omega
  have hB' : Below w.heap.size w u7 := by
      refine kb ?_ hb
      go_grown
  clear hpq_0 hpq_1 ha_0 ha_1 hb_0 hb_1 hs_0 hs_1 hlpq hla hlb hls hnpq0 hnpq1 hkpq1 hnpq2 hkpq2 hna0 hka1 hnb0 hkb1 hns0 hns1 hks1 hns2 hks2 hB hsz
  clear hb hz
  obtain ⟨⟨hpq_0, hpq_1⟩, ⟨ha_0, ha_1⟩, ⟨hb_0, hb_1⟩, ⟨hs_0, hs_1⟩, ⟨hx_0, hx_1⟩⟩ := T
  obtain ⟨hlpq, hla, hlb, hls, hlx⟩ := L
  obtain ⟨hnpq0, hnpq1, hkpq1, hnpq2, hkpq2⟩ := ap0 hlpq
  obtain ⟨hna0, hka1⟩ := ap1 hla
  have hnb0 : ¬ (w.heap.size + 1 + 1 = u7.heap.size) := by omega
  have hkb1 : w.heap.size + 1 < u7.heap.size := by omega
  obtain ⟨hns0, hns1, hks1, hns2, hks2⟩ := ap0 hls
  obtain ⟨hnx0, hnx1, hkx1, hnx2, hkx2⟩ := ap0 hlx
  have hB := hB'; clear hB'
  have hsz := hB.size
  have HP7 := Lib.hid (HP6.out.below (kb (by go_grown) hs_u7.out))
  clear HP6 HQ6
  go_wp2_with fail
  ((with_reducible refine (HC2.out _ _ _ (HP7.out.below (by go_grown)) (by go_grown)).mono ?_); rintro _ u8 ⟨rfl, hb⟩)
  have T : CC u8 w.heap.size 0 1 (.int .i64 p) (.int .i64 q) ∧ CC u8 (w.heap.size + 1) 0 1 (.int .u8 av) (.int .u8 at_) ∧ CC u8 (w.heap.size + 1 + 1) 0 1 (.int .u8 bv) (.int .u8 bt) ∧ CC u8 u3.heap.size 0 1 (.int .u8 wv) (.int .u8 wt) ∧ CC u8 u6.heap.size 0 1 (.int .u8 xv) (.int .u8 xt) ∧ CC u8 u7.heap.size 0 1 (.int .u8 yv) (.int .u8 yt) := by
      refine ⟨⟨?_, ?_⟩, ⟨?_, ?_⟩, ⟨?_, ?_⟩, ⟨?_, ?_⟩, ⟨?_, ?_⟩, ⟨?_, ?_⟩⟩ <;> refine kc hb ?_ <;> (go_simp; first | done | rfl)
  have hz := hb.size
  (try simp only [World.size_alloc, World.size_setCell, World.size_drew] at hz)
  have L : w.heap.size < u8.heap.size ∧ w.heap.size + 1 < u8.heap.size ∧ w.heap.size + 1 + 1 < u8.heap.size ∧ u3.heap.size < u8.heap.size ∧ u6.heap.size < u8.heap.size ∧ u7.heap.size < u8.heap.size := by omega
  have hB' : Below w.heap.size w u8 := by
      refine kb ?_ hb
      go_grown
  clear hpq_0 hpq_1 ha_0 ha_1 hb_0 hb_1 hs_0 hs_1 hx_0 hx_1 hlpq hla hlb hls hlx hnpq0 hnpq1 hkpq1 hnpq2 hkpq2 hna0 hka1 hnb0 hkb1 hns0 hns1 hks1 hns2 hks2 hnx0 hnx1 hkx1 hnx2 hkx2 hB hsz
  clear hb hz
  obtain ⟨⟨hpq_0, hpq_1⟩, ⟨ha_0, ha_1⟩, ⟨hb_0, hb_1⟩, ⟨hs_0, hs_1⟩, ⟨hx_0, hx_1⟩, ⟨hy_0, hy_1⟩⟩ := T
  obtain ⟨hlpq, hla, hlb, hls, hlx, hly⟩ := L
  obtain ⟨hnpq0, hnpq1, hkpq1, hnpq2, hkpq2⟩ := ap0 hlpq
  obtain ⟨hna0, hka1⟩ := ap1 hla
  have hnb0 : ¬ (w.heap.size + 1 + 1 = u8.heap.size) := by omega
  have hkb1 : w.heap.size + 1 < u8.heap.size := by omega
  obtain ⟨hns0, hns1, hks1, hns2, hks2⟩ := ap0 hls
  obtain ⟨hnx0, hnx1, hkx1, hnx2, hkx2⟩ := ap0 hlx
  obtain ⟨hny0, hny1, hky1, hny2, hky2⟩ := ap0 hly
  have hB := hB'; clear hB'
  have hsz := hB.size
  clear HP7 HC1 HC2 HC3 HC4 HC5 hs_u1 hs_u2 hs_u3 hs_u4 hs_u5 hs_u6 hs_u7
  go_upto_region 13 with fail
  refine wp_pin (fun w' => w'.cell? ⟨w.heap.size, 0, none⟩ = some (.int .i64 p) ∧ w'.cell? ⟨w.heap.size, 1, none⟩ = some (.int .i64 q) ∧ w'.cell? ⟨w.heap.size + 1, 0, none⟩ = some (.int .u8 av) ∧ w'.cell? ⟨w.heap.size + 1, 1, none⟩ = some (.int .u8 at_) ∧ w'.cell? ⟨w.heap.size + 1 + 1, 0, none⟩ = some (.int .u8 bv) ∧ w'.cell? ⟨w.heap.size + 1 + 1, 1, none⟩ = some (.int .u8 bt) ∧ w'.cell? ⟨u3.heap.size, 0, none⟩ = some (.int .u8 wv) ∧ w'.cell? ⟨u3.heap.size, 1, none⟩ = some (.int .u8 wt) ∧ w'.cell? ⟨u6.heap.size, 0, none⟩ = some (.int .u8 xv) ∧ w'.cell? ⟨u6.heap.size, 1, none⟩ = some (.int .u8 xt) ∧ w'.cell? ⟨u7.heap.size, 0, none⟩ = some (.int .u8 yv) ∧ w'.cell? ⟨u7.heap.size, 1, none⟩ = some (.int .u8 yt) ∧ w'.cell? ⟨u8.heap.size, 0, none⟩ = some (.int .u8 wv) ∧ w'.cell? ⟨u8.heap.size, 1, none⟩ = some (.int .u8 wt) ∧ Below w.heap.size w w') ?_ ?_
  · (try dsimp only)
    refine ⟨?_, ?_, ?_, ?_, ?_, ?_, ?_, ?_, ?_, ?_, ?_, ?_, ?_, ?_, ?_⟩ <;> first | (go_simp; done) | (simp [*]; done) | go_grown
  intro v1 T
  (try dsimp only at T)
  clear hpq_0 hpq_1 ha_0 ha_1 hb_0 hb_1 hs_0 hs_1 hx_0 hx_1 hy_0 hy_1 hlpq hla hlb hls hlx hly hnpq0 hnpq1 hkpq1 hnpq2 hkpq2 hna0 hka1 hnb0 hkb1 hns0 hns1 hks1 hns2 hks2 hnx0 hnx1 hkx1 hnx2 hkx2 hny0 hny1 hky1 hny2 hky2 hB hsz
  obtain ⟨hpq_0, hpq_1, ha_0, ha_1, hb_0, hb_1, hs_0, hs_1, hx_0, hx_1, hy_0, hy_1, hz_0, hz_1, hB⟩ := T
  have hsz := hB.size
  have hlpq := klt hpq_0
  have hla := klt ha_0
  have hlb := klt hb_0
  have hls := klt hs_0
  have hlx := klt hx_0
  have hly := klt hy_0
  have hlz := klt hz_0
  obtain ⟨hnpq0, hnpq1, hkpq1, hnpq2, hkpq2⟩ := ap0 hlpq
  obtain ⟨hna0, hka1⟩ := ap1 hla
  have hnb0 : ¬ (w.heap.size + 1 + 1 = v1.heap.size) := by omega
  have hkb1 : w.heap.size + 1 < v1.heap.size := by omega
  obtain ⟨hns0, hns1, hks1, hns2, hks2⟩ := ap0 hls
  obtain ⟨hnx0, hnx1, hkx1, hnx2, hkx2⟩ := ap0 hlx
  obtain ⟨hny0, hny1, hky1, hny2, hky2⟩ := ap0 hly
  obtain ⟨hnz0, hnz1, hkz1, hnz2, hkz2⟩ := ap0 hlz
  rcases HM1.out with hF | ⟨rfl, rfl, rfl, rfl⟩ | ⟨rfl, rfl, rfl, rfl⟩
  · go_upto_region 17 with fail
    by_cases hpq : p = q
    · have hpq' : (p == q) = true := by simpa using hpq
      clear hpq
      go_wp2_with fail
      ((with_reducible refine (HA.out _ (by go_grown)).mono ?_); rintro _ v8 ⟨rfl, hb⟩)
      have T : CC v8 w.heap.size 0 1 (.int .i64 p) (.int .i64 q) ∧ CC v8 (w.heap.size + 1) 0 1 (.int .u8 av) (.int .u8 at_) ∧ CC v8 (w.heap.size + 1 + 1) 0 1 (.int .u8 bv) (.int .u8 bt) ∧ CC v8 u3.heap.size 0 1 (.int .u8 wv) (.int .u8 wt) ∧ CC v8 u6.heap.size 0 1 (.int .u8 xv) (.int .u8 xt) ∧ CC v8 u7.heap.size 0 1 (.int .u8 yv) (.int .u8 yt) ∧ CC v8 u8.heap.size 0 1 (.int .u8 wv) (.int .u8 wt) := by
          refine ⟨⟨?_, ?_⟩, ⟨?_, ?_⟩, ⟨?_, ?_⟩, ⟨?_, ?_⟩, ⟨?_, ?_⟩, ⟨?_, ?_⟩, ⟨?_, ?_⟩⟩ <;> refine kc hb ?_ <;> (go_simp; first | done | rfl)
      have hz := hb.size
      (try simp only [World.size_alloc, World.size_setCell, World.size_drew] at hz)
      have L : w.heap.size < v8.heap.size ∧ w.heap.size + 1 < v8.heap.size ∧ w.heap.size + 1 + 1 < v8.heap.size ∧ u3.heap.size < v8.heap.size ∧ u6.heap.size < v8.heap.size ∧ u7.heap.size < v8.heap.size ∧ u8.heap.size < v8.heap.size := by omega
      have hB' : Below w.heap.size w v8 := by
          refine kb ?_ hb
          go_grown
      clear hpq_0 hpq_1 ha_0 ha_1 hb_0 hb_1 hs_0 hs_1 hx_0 hx_1 hy_0 hy_1 hz_0 hz_1 hB hsz hlpq hla hlb hls hlx hly hlz hnpq0 hnpq1 hkpq1 hnpq2 hkpq2 hna0 hka1 hnb0 hkb1 hns0 hns1 hks1 hns2 hks2 hnx0 hnx1 hkx1 hnx2 hkx2 hny0 hny1 hky1 hny2 hky2 hnz0 hnz1 hkz1 hnz2 hkz2
      clear hb hz
      obtain ⟨⟨hpq_0, hpq_1⟩, ⟨ha_0, ha_1⟩, ⟨hb_0, hb_1⟩, ⟨hs_0, hs_1⟩, ⟨hx_0, hx_1⟩, ⟨hy_0, hy_1⟩, ⟨hz_0, hz_1⟩⟩ := T
      obtain ⟨hlpq, hla, hlb, hls, hlx, hly, hlz⟩ := L
      obtain ⟨hnpq0, hnpq1, hkpq1, hnpq2, hkpq2⟩ := ap0 hlpq
      obtain ⟨hna0, hka1⟩ := ap1 hla
      have hnb0 : ¬ (w.heap.size + 1 + 1 = v8.heap.size) := by omega
      have hkb1 : w.heap.size + 1 < v8.heap.size := by omega
      obtain ⟨hns0, hns1, hks1, hns2, hks2⟩ := ap0 hls
      obtain ⟨hnx0, hnx1, hkx1, hnx2, hkx2⟩ := ap0 hlx
      obtain ⟨hny0, hny1, hky1, hny2, hky2⟩ := ap0 hly
      obtain ⟨hnz0, hnz1, hkz1, hnz2, hkz2⟩ := ap0 hlz
      have hB := hB'; clear hB'
      have hsz := hB.size
      go_wp2
      go_ret
      exact ⟨rfl, by go_grown⟩
    · have hpq' : (p == q) = false := by simpa using hpq
      rcases HM2.out hpq with hE | ⟨rfl, rfl⟩ | ⟨rfl, rfl, rfl, rfl⟩
      · have hE2 : ¬ E = 0 := by simpa using hE
        have hE3 : (E != 0) = true := by simp [hE2]
        go_wp2_with fail
        ((with_reducible refine (HA.out _ (by go_grown)).mono ?_); rintro _ v8 ⟨rfl, hb⟩)
        have T : CC v8 w.heap.size 0 1 (.int .i64 p) (.int .i64 q) ∧ CC v8 (w.heap.size + 1) 0 1 (.int .u8 av) (.int .u8 at_) ∧ CC v8 (w.heap.size + 1 + 1) 0 1 (.int .u8 bv) (.int .u8 bt) ∧ CC v8 u3.heap.size 0 1 (.int .u8 wv) (.int .u8 wt) ∧ CC v8 u6.heap.size 0 1 (.int .u8 xv) (.int .u8 xt) ∧ CC v8 u7.heap.size 0 1 (.int .u8 yv) (.int .u8 yt) ∧ CC v8 u8.heap.size 0 1 (.int .u8 wv) (.int .u8 wt) := by
            refine ⟨⟨?_, ?_⟩, ⟨?_, ?_⟩, ⟨?_, ?_⟩, ⟨?_, ?_⟩, ⟨?_, ?_⟩, ⟨?_, ?_⟩, ⟨?_, ?_⟩⟩ <;> refine kc hb ?_ <;> (go_simp; first | done | rfl)
        have hz := hb.size
        (try simp only [World.size_alloc, World.size_setCell, World.size_drew] at hz)
        have L : w.heap.size < v8.heap.size ∧ w.heap.size + 1 < v8.heap.size ∧ w.heap.size + 1 + 1 < v8.heap.size ∧ u3.heap.size < v8.heap.size ∧ u6.heap.size < v8.heap.size ∧ u7.heap.size < v8.heap.size ∧ u8.heap.size < v8.heap.size := by omega
        have hB' : Below w.heap.size w v8 := by
            refine kb ?_ hb
            go_grown
        clear hpq_0 hpq_1 ha_0 ha_1 hb_0 hb_1 hs_0 hs_1 hx_0 hx_1 hy_0 hy_1 hz_0 hz_1 hB hsz hlpq hla hlb hls hlx hly hlz hnpq0 hnpq1 hkpq1 hnpq2 hkpq2 hna0 hka1 hnb0 hkb1 hns0 hns1 hks1 hns2 hks2 hnx0 hnx1 hkx1 hnx2 hkx2 hny0 hny1 hky1 hny2 hky2 hnz0 hnz1 hkz1 hnz2 hkz2
        clear hb hz
        obtain ⟨⟨hpq_0, hpq_1⟩, ⟨ha_0, ha_1⟩, ⟨hb_0, hb_1⟩, ⟨hs_0, hs_1⟩, ⟨hx_0, hx_1⟩, ⟨hy_0, hy_1⟩, ⟨hz_0, hz_1⟩⟩ := T
        obtain ⟨hlpq, hla, hlb, hls, hlx, hly, hlz⟩ := L
        obtain ⟨hnpq0, hnpq1, hkpq1, hnpq2, hkpq2⟩ := ap0 hlpq
        obtain ⟨hna0, hka1⟩ := ap1 hla
        have hnb0 : ¬ (w.heap.size + 1 + 1 = v8.heap.size) := by omega
        have hkb1 : w.heap.size + 1 < v8.heap.size := by omega
        obtain ⟨hns0, hns1, hks1, hns2, hks2⟩ := ap0 hls
        obtain ⟨hnx0, hnx1, hkx1, hnx2, hkx2⟩ := ap0 hlx
        obtain ⟨hny0, hny1, hky1, hny2, hky2⟩ := ap0 hly
        obtain ⟨hnz0, hnz1, hkz1, hnz2, hkz2⟩ := ap0 hlz
        have hB := hB'; clear hB'
        have hsz := hB.size
        go_wp2
        go_ret
        exact ⟨rfl, by go_grown⟩
      · go_wp2_with fail
        ((with_reducible refine (HR1.out _).mono ?_); rintro _ v7 ⟨rfl, hb⟩)
        have T : CC v7 w.heap.size 0 1 (.int .i64 p) (.int .i64 q) ∧ CC v7 (w.heap.size + 1) 0 1 (.int .u8 av) (.int .u8 at_) ∧ CC v7 (w.heap.size + 1 + 1) 0 1 (.int .u8 bv) (.int .u8 bt) ∧ CC v7 u3.heap.size 0 1 (.int .u8 wv) (.int .u8 wt) ∧ CC v7 u6.heap.size 0 1 (.int .u8 xv) (.int .u8 xt) ∧ CC v7 u7.heap.size 0 1 (.int .u8 yv) (.int .u8 yt) ∧ CC v7 u8.heap.size 0 1 (.int .u8 wv) (.int .u8 wt) := by
            refine ⟨⟨?_, ?_⟩, ⟨?_, ?_⟩, ⟨?_, ?_⟩, ⟨?_, ?_⟩, ⟨?_, ?_⟩, ⟨?_, ?_⟩, ⟨?_, ?_⟩⟩ <;> refine kc hb ?_ <;> (go_simp; first | done | rfl)
        have hz := hb.size
        (try simp only [World.size_alloc, World.size_setCell, World.size_drew] at hz)
        have L : w.heap.size < v7.heap.size ∧ w.heap.size + 1 < v7.heap.size ∧ w.heap.size + 1 + 1 < v7.heap.size ∧ u3.heap.size < v7.heap.size ∧ u6.heap.size < v7.heap.size ∧ u7.heap.size < v7.heap.size ∧ u8.heap.size < v7.heap.size := by omega
        have hB' : Below w.heap.size w v7 := by
            refine kb ?_ hb
            go_grown
        clear hpq_0 hpq_1 ha_0 ha_1 hb_0 hb_1 hs_0 hs_1 hx_0 hx_1 hy_0 hy_1 hz_0 hz_1 hB hsz hlpq hla hlb hls hlx hly hlz hnpq0 hnpq1 hkpq1 hnpq2 hkpq2 hna0 hka1 hnb0 hkb1 hns0 hns1 hks1 hns2 hks2 hnx0 hnx1 hkx1 hnx2 hkx2 hny0 hny1 hky1 hny2 hky2 hnz0 hnz1 hkz1 hnz2 hkz2
        clear hb hz
        obtain ⟨⟨hpq_0, hpq_1⟩, ⟨ha_0, ha_1⟩, ⟨hb_0, hb_1⟩, ⟨hs_0, hs_1⟩, ⟨hx_0, hx_1⟩, ⟨hy_0, hy_1⟩, ⟨hz_0, hz_1⟩⟩ := T
        obtain ⟨hlpq, hla, hlb, hls, hlx, hly, hlz⟩ := L
        obtain ⟨hnpq0, hnpq1, hkpq1, hnpq2, hkpq2⟩ := ap0 hlpq
        obtain ⟨hna0, hka1⟩ := ap1 hla
        have hnb0 : ¬ (w.heap.size + 1 + 1 = v7.heap.size) := by omega
        have hkb1 : w.heap.size + 1 < v7.heap.size := by omega
        obtain ⟨hns0, hns1, hks1, hns2, hks2⟩ := ap0 hls
        obtain ⟨hnx0, hnx1, hkx1, hnx2, hkx2⟩ := ap0 hlx
        obtain ⟨hny0, hny1, hky1, hny2, hky2⟩ := ap0 hly
        obtain ⟨hnz0, hnz1, hkz1, hnz2, hkz2⟩ := ap0 hlz
        have hB := hB'; clear hB'
        have hsz := hB.size
        go_wp2_with fail
        ((with_reducible refine (HA.out _ (by go_grown)).mono ?_); rintro _ v8 ⟨rfl, hb⟩)
        have T : CC v8 w.heap.size 0 1 (.int .i64 p) (.int .i64 q) ∧ CC v8 (w.heap.size + 1) 0 1 (.int .u8 av) (.int .u8 at_) ∧ CC v8 (w.heap.size + 1 + 1) 0 1 (.int .u8 bv) (.int .u8 bt) ∧ CC v8 u3.heap.size 0 1 (.int .u8 wv) (.int .u8 wt) ∧ CC v8 u6.heap.size 0 1 (.int .u8 xv) (.int .u8 xt) ∧ CC v8 u7.heap.size 0 1 (.int .u8 yv) (.int .u8 yt) ∧ CC v8 u8.heap.size 0 1 (.int .u8 wv) (.int .u8 wt) := by
            refine ⟨⟨?_, ?_⟩, ⟨?_, ?_⟩, ⟨?_, ?_⟩, ⟨?_, ?_⟩, ⟨?_, ?_⟩, ⟨?_, ?_⟩, ⟨?_, ?_⟩⟩ <;> refine kc hb ?_ <;> (go_simp; first | done | rfl)
        have hz := hb.size
        (try simp only [World.size_alloc, World.size_setCell, World.size_drew] at hz)
        have L : w.heap.size < v8.heap.size ∧ w.heap.size + 1 < v8.heap.size ∧ w.heap.size + 1 + 1 < v8.heap.size ∧ u3.heap.size < v8.heap.size ∧ u6.heap.size < v8.heap.size ∧ u7.heap.size < v8.heap.size ∧ u8.heap.size < v8.heap.size := by omega
        have hB' : Below w.heap.size w v8 := by
            refine kb ?_ hb
            go_grown
        clear hpq_0 hpq_1 ha_0 ha_1 hb_0 hb_1 hs_0 hs_1 hx_0 hx_1 hy_0 hy_1 hz_0 hz_1 hlpq hla hlb hls hlx hly hlz hnpq0 hnpq1 hkpq1 hnpq2 hkpq2 hna0 hka1 hnb0 hkb1 hns0 hns1 hks1 hns2 hks2 hnx0 hnx1 hkx1 hnx2 hkx2 hny0 hny1 hky1 hny2 hky2 hnz0 hnz1 hkz1 hnz2 hkz2 hB hsz
        clear hb hz
        obtain ⟨⟨hpq_0, hpq_1⟩, ⟨ha_0, ha_1⟩, ⟨hb_0, hb_1⟩, ⟨hs_0, hs_1⟩, ⟨hx_0, hx_1⟩, ⟨hy_0, hy_1⟩, ⟨hz_0, hz_1⟩⟩ := T
        obtain ⟨hlpq, hla, hlb, hls, hlx, hly, hlz⟩ := L
        obtain ⟨hnpq0, hnpq1, hkpq1, hnpq2, hkpq2⟩ := ap0 hlpq
        obtain ⟨hna0, hka1⟩ := ap1 hla
        have hnb0 : ¬ (w.heap.size + 1 + 1 = v8.heap.size) := by omega
        have hkb1 : w.heap.size + 1 < v8.heap.size := by omega
        obtain ⟨hns0, hns1, hks1, hns2, hks2⟩ := ap0 hls
        obtain ⟨hnx0, hnx1, hkx1, hnx2, hkx2⟩ := ap0 hlx
        obtain ⟨hny0, hny1, hky1, hny2, hky2⟩ := ap0 hly
        obtain ⟨hnz0, hnz1, hkz1, hnz2, hkz2⟩ := ap0 hlz
        have hB := hB'; clear hB'
        have hsz := hB.size
        go_wp2
        go_ret
        exact ⟨rfl, by go_grown⟩
      · go_wp2_with fail
        ((with_reducible refine (HR1.out _).mono ?_); rintro _ v7 ⟨rfl, hb⟩)
        have T : CC v7 w.heap.size 0 1 (.int .i64 p) (.int .i64 q) ∧ CC v7 (w.heap.size + 1) 0 1 (.int .u8 av) (.int .u8 at_) ∧ CC v7 (w.heap.size + 1 + 1) 0 1 (.int .u8 bv) (.int .u8 bt) ∧ CC v7 u3.heap.size 0 1 (.int .u8 wv) (.int .u8 wt) ∧ CC v7 u6.heap.size 0 1 (.int .u8 xv) (.int .u8 xt) ∧ CC v7 u7.heap.size 0 1 (.int .u8 av) (.int .u8 at_) ∧ CC v7 u8.heap.size 0 1 (.int .u8 wv) (.int .u8 wt) := by
            refine ⟨⟨?_, ?_⟩, ⟨?_, ?_⟩, ⟨?_, ?_⟩, ⟨?_, ?_⟩, ⟨?_, ?_⟩, ⟨?_, ?_⟩, ⟨?_, ?_⟩⟩ <;> refine kc hb ?_ <;> (go_simp; first | done | rfl)
        have hz := hb.size
        (try simp only [World.size_alloc, World.size_setCell, World.size_drew] at hz)
        have L : w.heap.size < v7.heap.size ∧ w.heap.size + 1 < v7.heap.size ∧ w.heap.size + 1 + 1 < v7.heap.size ∧ u3.heap.size < v7.heap.size ∧ u6.heap.size < v7.heap.size ∧ u7.heap.size < v7.heap.size ∧ u8.heap.size < v7.heap.size := by omega
        have hB' : Below w.heap.size w v7 := by
            refine kb ?_ hb
            go_grown
        clear hpq_0 hpq_1 ha_0 ha_1 hb_0 hb_1 hs_0 hs_1 hx_0 hx_1 hy_0 hy_1 hz_0 hz_1 hB hsz hlpq hla hlb hls hlx hly hlz hnpq0 hnpq1 hkpq1 hnpq2 hkpq2 hna0 hka1 hnb0 hkb1 hns0 hns1 hks1 hns2 hks2 hnx0 hnx1 hkx1 hnx2 hkx2 hny0 hny1 hky1 hny2 hky2 hnz0 hnz1 hkz1 hnz2 hkz2
        clear hb hz
        obtain ⟨⟨hpq_0, hpq_1⟩, ⟨ha_0, ha_1⟩, ⟨hb_0, hb_1⟩, ⟨hs_0, hs_1⟩, ⟨hx_0, hx_1⟩, ⟨hyy_0, hyy_1⟩, ⟨hz_0, hz_1⟩⟩ := T
        obtain ⟨hlpq, hla, hlb, hls, hlx, hlyy, hlz⟩ := L
        obtain ⟨hnpq0, hnpq1, hkpq1, hnpq2, hkpq2⟩ := ap0 hlpq
        obtain ⟨hna0, hka1⟩ := ap1 hla
        have hnb0 : ¬ (w.heap.size + 1 + 1 = v7.heap.size) := by omega
        have hkb1 : w.heap.size + 1 < v7.heap.size := by omega
        obtain ⟨hns0, hns1, hks1, hns2, hks2⟩ := ap0 hls
        obtain ⟨hnx0, hnx1, hkx1, hnx2, hkx2⟩ := ap0 hlx
        obtain ⟨hnyy0, hnyy1, hkyy1, hnyy2, hkyy2⟩ := ap0 hlyy
        obtain ⟨hnz0, hnz1, hkz1, hnz2, hkz2⟩ := ap0 hlz
        have hB := hB'; clear hB'
        have hsz := hB.size
        go_wp2_with fail
        ((with_reducible refine (HA.out _ (by go_grown)).mono ?_); rintro _ v8 ⟨rfl, hb⟩)
        have T : CC v8 w.heap.size 0 1 (.int .i64 p) (.int .i64 q) ∧ CC v8 (w.heap.size + 1) 0 1 (.int .u8 av) (.int .u8 at_) ∧ CC v8 (w.heap.size + 1 + 1) 0 1 (.int .u8 bv) (.int .u8 bt) ∧ CC v8 u3.heap.size 0 1 (.int .u8 wv) (.int .u8 wt) ∧ CC v8 u6.heap.size 0 1 (.int .u8 xv) (.int .u8 xt) ∧ CC v8 u7.heap.size 0 1 (.int .u8 av) (.int .u8 at_) ∧ CC v8 u8.heap.size 0 1 (.int .u8 wv) (.int .u8 wt) := by
            refine ⟨⟨?_, ?_⟩, ⟨?_, ?_⟩, ⟨?_, ?_⟩, ⟨?_, ?_⟩, ⟨?_, ?_⟩, ⟨?_, ?_⟩, ⟨?_, ?_⟩⟩ <;> refine kc hb ?_ <;> (go_simp; first | done | rfl)
        have hz := hb.size
        (try simp only [World.size_alloc, World.size_setCell, World.size_drew] at hz)
        have L : w.heap.size < v8.heap.size ∧ w.heap.size + 1 < v8.heap.size ∧ w.heap.size + 1 + 1 < v8.heap.size ∧ u3.heap.size < v8.heap.size ∧ u6.heap.size < v8.heap.size ∧ u7.heap.size < v8.heap.size ∧ u8.heap.size < v8.heap.size := by omega
        have hB' : Below w.heap.size w v8 := by
            refine kb ?_ hb
            go_grown
        clear hpq_0 hpq_1 ha_0 ha_1 hb_0 hb_1 hs_0 hs_1 hx_0 hx_1 hyy_0 hyy_1 hz_0 hz_1 hlpq hla hlb hls hlx hlyy hlz hnpq0 hnpq1 hkpq1 hnpq2 hkpq2 hna0 hka1 hnb0 hkb1 hns0 hns1 hks1 hns2 hks2 hnx0 hnx1 hkx1 hnx2 hkx2 hnyy0 hnyy1 hkyy1 hnyy2 hkyy2 hnz0 hnz1 hkz1 hnz2 hkz2 hB hsz
        clear hb hz
        obtain ⟨⟨hpq_0, hpq_1⟩, ⟨ha_0, ha_1⟩, ⟨hb_0, hb_1⟩, ⟨hs_0, hs_1⟩, ⟨hx_0, hx_1⟩, ⟨hyy_0, hyy_1⟩, ⟨hz_0, hz_1⟩⟩ := T
        obtain ⟨hlpq, hla, hlb, hls, hlx, hlyy, hlz⟩ := L
        obtain ⟨hnpq0, hnpq1, hkpq1, hnpq2, hkpq2⟩ := ap0 hlpq
        obtain ⟨hna0, hka1⟩ := ap1 hla
        have hnb0 : ¬ (w.heap.size + 1 + 1 = v8.heap.size) := by omega
        have hkb1 : w.heap.size + 1 < v8.heap.size := by omega
        obtain ⟨hns0, hns1, hks1, hns2, hks2⟩ := ap0 hls
        obtain ⟨hnx0, hnx1, hkx1, hnx2, hkx2⟩ := ap0 hlx
        obtain ⟨hnyy0, hnyy1, hkyy1, hnyy2, hkyy2⟩ := ap0 hlyy
        obtain ⟨hnz0, hnz1, hkz1, hnz2, hkz2⟩ := ap0 hlz
        have hB := hB'; clear hB'
        have hsz := hB.size
        go_wp2
        go_ret
        exact ⟨rfl, by go_grown⟩
  · go_wp2_with fail
    ((with_reducible refine (HR2.out _).mono ?_); rintro _ v2 ⟨rfl, hb⟩)
    have T : CC v2 w.heap.size 0 1 (.int .i64 p) (.int .i64 q) ∧ CC v2 (w.heap.size + 1) 0 1 (.int .u8 av) (.int .u8 at_) ∧ CC v2 (w.heap.size + 1 + 1) 0 1 (.int .u8 bv) (.int .u8 bt) ∧ CC v2 u3.heap.size 0 1 (.int .u8 wv) (.int .u8 wt) ∧ CC v2 u6.heap.size 0 1 (.int .u8 bv) (.int .u8 bt) ∧ CC v2 u7.heap.size 0 1 (.int .u8 yv) (.int .u8 yt) ∧ CC v2 u8.heap.size 0 1 (.int .u8 wv) (.int .u8 wt) := by
        refine ⟨⟨?_, ?_⟩, ⟨?_, ?_⟩, ⟨?_, ?_⟩, ⟨?_, ?_⟩, ⟨?_, ?_⟩, ⟨?_, ?_⟩, ⟨?_, ?_⟩⟩ <;> refine kc hb ?_ <;> (go_simp; first | done | rfl)
    have hz := hb.size
    (try simp only [World.size_alloc, World.size_setCell, World.size_drew] at hz)
    have L : w.heap.size < v2.heap.size ∧ w.heap.size + 1 < v2.heap.size ∧ w.heap.size + 1 + 1 < v2.heap.size ∧ u3.heap.size < v2.heap.size ∧ u6.heap.size < v2.heap.size ∧ u7.heap.size < v2.heap.size ∧ u8.heap.size < v2.heap.size := by omega
    have hB' : Below w.heap.size w v2 := by
        refine kb ?_ hb
        go_grown
    clear hpq_0 hpq_1 ha_0 ha_1 hb_0 hb_1 hs_0 hs_1 hx_0 hx_1 hy_0 hy_1 hz_0 hz_1 hB hsz hlpq hla hlb hls hlx hly hlz hnpq0 hnpq1 hkpq1 hnpq2 hkpq2 hna0 hka1 hnb0 hkb1 hns0 hns1 hks1 hns2 hks2 hnx0 hnx1 hkx1 hnx2 hkx2 hny0 hny1 hky1 hny2 hky2 hnz0 hnz1 hkz1 hnz2 hkz2
    clear hb hz
    obtain ⟨⟨hpq_0, hpq_1⟩, ⟨ha_0, ha_1⟩, ⟨hb_0, hb_1⟩, ⟨hs_0, hs_1⟩, ⟨hxb_0, hxb_1⟩, ⟨hy_0, hy_1⟩, ⟨hz_0, hz_1⟩⟩ := T
    obtain ⟨hlpq, hla, hlb, hls, hlxb, hly, hlz⟩ := L
    obtain ⟨hnpq0, hnpq1, hkpq1, hnpq2, hkpq2⟩ := ap0 hlpq
    obtain ⟨hna0, hka1⟩ := ap1 hla
    have hnb0 : ¬ (w.heap.size + 1 + 1 = v2.heap.size) := by omega
    have hkb1 : w.heap.size + 1 < v2.heap.size := by omega
    obtain ⟨hns0, hns1, hks1, hns2, hks2⟩ := ap0 hls
    obtain ⟨hnxb0, hnxb1, hkxb1, hnxb2, hkxb2⟩ := ap0 hlxb
    obtain ⟨hny0, hny1, hky1, hny2, hky2⟩ := ap0 hly
    obtain ⟨hnz0, hnz1, hkz1, hnz2, hkz2⟩ := ap0 hlz
    have hB := hB'; clear hB'
    have hsz := hB.size
    go_wp2_with fail
    ((with_reducible refine (HR2.out _).mono ?_); rintro _ v3 ⟨rfl, hb⟩)
    have T : CC v3 w.heap.size 0 1 (.int .i64 p) (.int .i64 q) ∧ CC v3 (w.heap.size + 1) 0 1 (.int .u8 av) (.int .u8 at_) ∧ CC v3 (w.heap.size + 1 + 1) 0 1 (.int .u8 bv) (.int .u8 bt) ∧ CC v3 u3.heap.size 0 1 (.int .u8 wv) (.int .u8 wt) ∧ CC v3 u6.heap.size 0 1 (.int .u8 bv) (.int .u8 bt) ∧ CC v3 u7.heap.size 0 1 (.int .u8 yv) (.int .u8 yt) ∧ CC v3 u8.heap.size 0 1 (.int .u8 wv) (.int .u8 wt) := by
        refine ⟨⟨?_, ?_⟩, ⟨?_, ?_⟩, ⟨?_, ?_⟩, ⟨?_, ?_⟩, ⟨?_, ?_⟩, ⟨?_, ?_⟩, ⟨?_, ?_⟩⟩ <;> refine kc hb ?_ <;> (go_simp; first | done | rfl)
    have hz := hb.size
    (try simp only [World.size_alloc, World.size_setCell, World.size_drew] at hz)
    have L : w.heap.size < v3.heap.size ∧ w.heap.size + 1 < v3.heap.size ∧ w.heap.size + 1 + 1 < v3.heap.size ∧ u3.heap.size < v3.heap.size ∧ u6.heap.size < v3.heap.size ∧ u7.heap.size < v3.heap.size ∧ u8.heap.size < v3.heap.size := by omega
    have hB' : Below w.heap.size w v3 := by
        refine kb ?_ hb
        go_grown
    clear hpq_0 hpq_1 ha_0 ha_1 hb_0 hb_1 hs_0 hs_1 hxb_0 hxb_1 hy_0 hy_1 hz_0 hz_1 hlpq hla hlb hls hlxb hly hlz hnpq0 hnpq1 hkpq1 hnpq2 hkpq2 hna0 hka1 hnb0 hkb1 hns0 hns1 hks1 hns2 hks2 hnxb0 hnxb1 hkxb1 hnxb2 hkxb2 hny0 hny1 hky1 hny2 hky2 hnz0 hnz1 hkz1 hnz2 hkz2 hB hsz
    clear hb hz
    obtain ⟨⟨hpq_0, hpq_1⟩, ⟨ha_0, ha_1⟩, ⟨hb_0, hb_1⟩, ⟨hs_0, hs_1⟩, ⟨hxb_0, hxb_1⟩, ⟨hy_0, hy_1⟩, ⟨hz_0, hz_1⟩⟩ := T
    obtain ⟨hlpq, hla, hlb, hls, hlxb, hly, hlz⟩ := L
    obtain ⟨hnpq0, hnpq1, hkpq1, hnpq2, hkpq2⟩ := ap0 hlpq
    obtain ⟨hna0, hka1⟩ := ap1 hla
    have hnb0 : ¬ (w.heap.size + 1 + 1 = v3.heap.size) := by omega
    have hkb1 : w.heap.size + 1 < v3.heap.size := by omega
    obtain ⟨hns0, hns1, hks1, hns2, hks2⟩ := ap0 hls
    obtain ⟨hnxb0, hnxb1, hkxb1, hnxb2, hkxb2⟩ := ap0 hlxb
    obtain ⟨hny0, hny1, hky1, hny2, hky2⟩ := ap0 hly
    obtain ⟨hnz0, hnz1, hkz1, hnz2, hkz2⟩ := ap0 hlz
    have hB := hB'; clear hB'
    have hsz := hB.size
    go_upto_region 17 with fail
    by_cases hpq : p = q
    · have hpq' : (p == q) = true := by simpa using hpq
      clear hpq
      go_wp2_with fail
      ((with_reducible refine (HA.out _ (by go_grown)).mono ?_); rintro _ v8 ⟨rfl, hb⟩)
      have T : CC v8 w.heap.size 0 1 (.int .i64 p) (.int .i64 q) ∧ CC v8 (w.heap.size + 1) 0 1 (.int .u8 av) (.int .u8 at_) ∧ CC v8 (w.heap.size + 1 + 1) 0 1 (.int .u8 bv) (.int .u8 bt) ∧ CC v8 u3.heap.size 0 1 (.int .u8 wv) (.int .u8 wt) ∧ CC v8 u6.heap.size 0 1 (.int .u8 bv) (.int .u8 bt) ∧ CC v8 u7.heap.size 0 1 (.int .u8 yv) (.int .u8 yt) ∧ CC v8 u8.heap.size 0 1 (.int .u8 wv) (.int .u8 wt) := by
          refine ⟨⟨?_, ?_⟩, ⟨?_, ?_⟩, ⟨?_, ?_⟩, ⟨?_, ?_⟩, ⟨?_, ?_⟩, ⟨?_, ?_⟩, ⟨?_, ?_⟩⟩ <;> refine kc hb ?_ <;> (go_simp; first | done | rfl)
      have hz := hb.size
      (try simp only [World.size_alloc, World.size_setCell, World.size_drew] at hz)
      have L : w.heap.size < v8.heap.size ∧ w.heap.size + 1 < v8.heap.size ∧ w.heap.size + 1 + 1 < v8.heap.size ∧ u3.heap.size < v8.heap.size ∧ u6.heap.size < v8.heap.size ∧ u7.heap.size < v8.heap.size ∧ u8.heap.size < v8.heap.size := by omega
      have hB' : Below w.heap.size w v8 := by
          refine kb ?_ hb
          go_grown
      clear hpq_0 hpq_1 ha_0 ha_1 hb_0 hb_1 hs_0 hs_1 hxb_0 hxb_1 hy_0 hy_1 hz_0 hz_1 hlpq hla hlb hls hlxb hly hlz hnpq0 hnpq1 hkpq1 hnpq2 hkpq2 hna0 hka1 hnb0 hkb1 hns0 hns1 hks1 hns2 hks2 hnxb0 hnxb1 hkxb1 hnxb2 hkxb2 hny0 hny1 hky1 hny2 hky2 hnz0 hnz1 hkz1 hnz2 hkz2 hB hsz
      clear hb hz
      obtain ⟨⟨hpq_0, hpq_1⟩, ⟨ha_0, ha_1⟩, ⟨hb_0, hb_1⟩, ⟨hs_0, hs_1⟩, ⟨hxb_0, hxb_1⟩, ⟨hy_0, hy_1⟩, ⟨hz_0, hz_1⟩⟩ := T
      obtain ⟨hlpq, hla, hlb, hls, hlxb, hly, hlz⟩ := L
      obtain ⟨hnpq0, hnpq1, hkpq1, hnpq2, hkpq2⟩ := ap0 hlpq
      obtain ⟨hna0, hka1⟩ := ap1 hla
      have hnb0 : ¬ (w.heap.size + 1 + 1 = v8.heap.size) := by omega
      have hkb1 : w.heap.size + 1 < v8.heap.size := by omega
      obtain ⟨hns0, hns1, hks1, hns2, hks2⟩ := ap0 hls
      obtain ⟨hnxb0, hnxb1, hkxb1, hnxb2, hkxb2⟩ := ap0 hlxb
      obtain ⟨hny0, hny1, hky1, hny2, hky2⟩ := ap0 hly
      obtain ⟨hnz0, hnz1, hkz1, hnz2, hkz2⟩ := ap0 hlz
      have hB := hB'; clear hB'
      have hsz := hB.size
      go_wp2
      go_ret
      exact ⟨rfl, by go_grown⟩
    · have hpq' : (p == q) = false := by simpa using hpq
      rcases HM2.out hpq with hE | ⟨rfl, rfl⟩ | ⟨rfl, rfl, rfl, rfl⟩
      · have hE2 : ¬ E = 0 := by simpa using hE
        have hE3 : (E != 0) = true := by simp [hE2]
        go_wp2_with fail
        ((with_reducible refine (HA.out _ (by go_grown)).mono ?_); rintro _ v8 ⟨rfl, hb⟩)
        have T : CC v8 w.heap.size 0 1 (.int .i64 p) (.int .i64 q) ∧ CC v8 (w.heap.size + 1) 0 1 (.int .u8 av) (.int .u8 at_) ∧ CC v8 (w.heap.size + 1 + 1) 0 1 (.int .u8 bv) (.int .u8 bt) ∧ CC v8 u3.heap.size 0 1 (.int .u8 wv) (.int .u8 wt) ∧ CC v8 u6.heap.size 0 1 (.int .u8 bv) (.int .u8 bt) ∧ CC v8 u7.heap.size 0 1 (.int .u8 yv) (.int .u8 yt) ∧ CC v8 u8.heap.size 0 1 (.int .u8 wv) (.int .u8 wt) := by
            refine ⟨⟨?_, ?_⟩, ⟨?_, ?_⟩, ⟨?_, ?_⟩, ⟨?_, ?_⟩, ⟨?_, ?_⟩, ⟨?_, ?_⟩, ⟨?_, ?_⟩⟩ <;> refine kc hb ?_ <;> (go_simp; first | done | rfl)
        have hz := hb.size
        (try simp only [World.size_alloc, World.size_setCell, World.size_drew] at hz)
        have L : w.heap.size < v8.heap.size ∧ w.heap.size + 1 < v8.heap.size ∧ w.heap.size + 1 + 1 < v8.heap.size ∧ u3.heap.size < v8.heap.size ∧ u6.heap.size < v8.heap.size ∧ u7.heap.size < v8.heap.size ∧ u8.heap.size < v8.heap.size := by omega
        have hB' : Below w.heap.size w v8 := by
            refine kb ?_ hb
            go_grown
        clear hpq_0 hpq_1 ha_0 ha_1 hb_0 hb_1 hs_0 hs_1 hxb_0 hxb_1 hy_0 hy_1 hz_0 hz_1 hlpq hla hlb hls hlxb hly hlz hnpq0 hnpq1 hkpq1 hnpq2 hkpq2 hna0 hka1 hnb0 hkb1 hns0 hns1 hks1 hns2 hks2 hnxb0 hnxb1 hkxb1 hnxb2 hkxb2 hny0 hny1 hky1 hny2 hky2 hnz0 hnz1 hkz1 hnz2 hkz2 hB hsz
        clear hb hz
        obtain ⟨⟨hpq_0, hpq_1⟩, ⟨ha_0, ha_1⟩, ⟨hb_0, hb_1⟩, ⟨hs_0, hs_1⟩, ⟨hxb_0, hxb_1⟩, ⟨hy_0, hy_1⟩, ⟨hz_0, hz_1⟩⟩ := T
        obtain ⟨hlpq, hla, hlb, hls, hlxb, hly, hlz⟩ := L
        obtain ⟨hnpq0, hnpq1, hkpq1, hnpq2, hkpq2⟩ := ap0 hlpq
        obtain ⟨hna0, hka1⟩ := ap1 hla
        have hnb0 : ¬ (w.heap.size + 1 + 1 = v8.heap.size) := by omega
        have hkb1 : w.heap.size + 1 < v8.heap.size := by omega
        obtain ⟨hns0, hns1, hks1, hns2, hks2⟩ := ap0 hls
        obtain ⟨hnxb0, hnxb1, hkxb1, hnxb2, hkxb2⟩ := ap0 hlxb
        obtain ⟨hny0, hny1, hky1, hny2, hky2⟩ := ap0 hly
        obtain ⟨hnz0, hnz1, hkz1, hnz2, hkz2⟩ := ap0 hlz
        have hB := hB'; clear hB'
        have hsz := hB.size
        go_wp2
        go_ret
        exact ⟨rfl, by go_grown⟩
      · go_wp2_with fail
        ((with_reducible refine (HR1.out _).mono ?_); rintro _ v7 ⟨rfl, hb⟩)
        have T : CC v7 w.heap.size 0 1 (.int .i64 p) (.int .i64 q) ∧ CC v7 (w.heap.size + 1) 0 1 (.int .u8 av) (.int .u8 at_) ∧ CC v7 (w.heap.size + 1 + 1) 0 1 (.int .u8 bv) (.int .u8 bt) ∧ CC v7 u3.heap.size 0 1 (.int .u8 wv) (.int .u8 wt) ∧ CC v7 u6.heap.size 0 1 (.int .u8 bv) (.int .u8 bt) ∧ CC v7 u7.heap.size 0 1 (.int .u8 yv) (.int .u8 yt) ∧ CC v7 u8.heap.size 0 1 (.int .u8 wv) (.int .u8 wt) := by
            refine ⟨⟨?_, ?_⟩, ⟨?_, ?_⟩, ⟨?_, ?_⟩, ⟨?_, ?_⟩, ⟨?_, ?_⟩, ⟨?_, ?_⟩, ⟨?_, ?_⟩⟩ <;> refine kc hb ?_ <;> (go_simp; first | done | rfl)
        have hz := hb.size
        (try simp only [World.size_alloc, World.size_setCell, World.size_drew] at hz)
        have L : w.heap.size < v7.heap.size ∧ w.heap.size + 1 < v7.heap.size ∧ w.heap.size + 1 + 1 < v7.heap.size ∧ u3.heap.size < v7.heap.size ∧ u6.heap.size < v7.heap.size ∧ u7.heap.size < v7.heap.size ∧ u8.heap.size < v7.heap.size := by omega
        have hB' : Below w.heap.size w v7 := by
            refine kb ?_ hb
            go_grown
        clear hpq_0 hpq_1 ha_0 ha_1 hb_0 hb_1 hs_0 hs_1 hxb_0 hxb_1 hy_0 hy_1 hz_0 hz_1 hlpq hla hlb hls hlxb hly hlz hnpq0 hnpq1 hkpq1 hnpq2 hkpq2 hna0 hka1 hnb0 hkb1 hns0 hns1 hks1 hns2 hks2 hnxb0 hnxb1 hkxb1 hnxb2 hkxb2 hny0 hny1 hky1 hny2 hky2 hnz0 hnz1 hkz1 hnz2 hkz2 hB hsz
        clear hb hz
        obtain ⟨⟨hpq_0, hpq_1⟩, ⟨ha_0, ha_1⟩, ⟨hb_0, hb_1⟩, ⟨hs_0, hs_1⟩, ⟨hxb_0, hxb_1⟩, ⟨hy_0, hy_1⟩, ⟨hz_0, hz_1⟩⟩ := T
        obtain ⟨hlpq, hla, hlb, hls, hlxb, hly, hlz⟩ := L
        obtain ⟨hnpq0, hnpq1, hkpq1, hnpq2, hkpq2⟩ := ap0 hlpq
        obtain ⟨hna0, hka1⟩ := ap1 hla
        have hnb0 : ¬ (w.heap.size + 1 + 1 = v7.heap.size) := by omega
        have hkb1 : w.heap.size + 1 < v7.heap.size := by omega
        obtain ⟨hns0, hns1, hks1, hns2, hks2⟩ := ap0 hls
        obtain ⟨hnxb0, hnxb1, hkxb1, hnxb2, hkxb2⟩ := ap0 hlxb
        obtain ⟨hny0, hny1, hky1, hny2, hky2⟩ := ap0 hly
        obtain ⟨hnz0, hnz1, hkz1, hnz2, hkz2⟩ := ap0 hlz
        have hB := hB'; clear hB'
        have hsz := hB.size
        go_wp2_with fail
        ((with_reducible refine (HA.out _ (by go_grown)).mono ?_); rintro _ v8 ⟨rfl, hb⟩)
        have T : CC v8 w.heap.size 0 1 (.int .i64 p) (.int .i64 q) ∧ CC v8 (w.heap.size + 1) 0 1 (.int .u8 av) (.int .u8 at_) ∧ CC v8 (w.heap.size + 1 + 1) 0 1 (.int .u8 bv) (.int .u8 bt) ∧ CC v8 u3.heap.size 0 1 (.int .u8 wv) (.int .u8 wt) ∧ CC v8 u6.heap.size 0 1 (.int .u8 bv) (.int .u8 bt) ∧ CC v8 u7.heap.size 0 1 (.int .u8 yv) (.int .u8 yt) ∧ CC v8 u8.heap.size 0 1 (.int .u8 wv) (.int .u8 wt) := by
            refine ⟨⟨?_, ?_⟩, ⟨?_, ?_⟩, ⟨?_, ?_⟩, ⟨?_, ?_⟩, ⟨?_, ?_⟩, ⟨?_, ?_⟩, ⟨?_, ?_⟩⟩ <;> refine kc hb ?_ <;> (go_simp; first | done | rfl)
        have hz := hb.size
        (try simp only [World.size_alloc, World.size_setCell, World.size_drew] at hz)
        have L : w.heap.size < v8.heap.size ∧ w.heap.size + 1 < v8.heap.size ∧ w.heap.size + 1 + 1 < v8.heap.size ∧ u3.heap.size < v8.heap.size ∧ u6.heap.size < v8.heap.size ∧ u7.heap.size < v8.heap.size ∧ u8.heap.size < v8.heap.size := by omega
        have hB' : Below w.heap.size w v8 := by
            refine kb ?_ hb
            go_grown
        clear hpq_0 hpq_1 ha_0 ha_1 hb_0 hb_1 hs_0 hs_1 hxb_0 hxb_1 hy_0 hy_1 hz_0 hz_1 hlpq hla hlb hls hlxb hly hlz hnpq0 hnpq1 hkpq1 hnpq2 hkpq2 hna0 hka1 hnb0 hkb1 hns0 hns1 hks1 hns2 hks2 hnxb0 hnxb1 hkxb1 hnxb2 hkxb2 hny0 hny1 hky1 hny2 hky2 hnz0 hnz1 hkz1 hnz2 hkz2 hB hsz
        clear hb hz
        obtain ⟨⟨hpq_0, hpq_1⟩, ⟨ha_0, ha_1⟩, ⟨hb_0, hb_1⟩, ⟨hs_0, hs_1⟩, ⟨hxb_0, hxb_1⟩, ⟨hy_0, hy_1⟩, ⟨hz_0, hz_1⟩⟩ := T
        obtain ⟨hlpq, hla, hlb, hls, hlxb, hly, hlz⟩ := L
        obtain ⟨hnpq0, hnpq1, hkpq1, hnpq2, hkpq2⟩ := ap0 hlpq
        obtain ⟨hna0, hka1⟩ := ap1 hla
        have hnb0 : ¬ (w.heap.size + 1 + 1 = v8.heap.size) := by omega
        have hkb1 : w.heap.size + 1 < v8.heap.size := by omega
        obtain ⟨hns0, hns1, hks1, hns2, hks2⟩ := ap0 hls
        obtain ⟨hnxb0, hnxb1, hkxb1, hnxb2, hkxb2⟩ := ap0 hlxb
        obtain ⟨hny0, hny1, hky1, hny2, hky2⟩ := ap0 hly
        obtain ⟨hnz0, hnz1, hkz1, hnz2, hkz2⟩ := ap0 hlz
        have hB := hB'; clear hB'
        have hsz := hB.size
        go_wp2
        go_ret
        exact ⟨rfl, by go_grown⟩
      · go_wp2_with fail
        ((with_reducible refine (HR1.out _).mono ?_); rintro _ v7 ⟨rfl, hb⟩)
        have T : CC v7 w.heap.size 0 1 (.int .i64 p) (.int .i64 q) ∧ CC v7 (w.heap.size + 1) 0 1 (.int .u8 av) (.int .u8 at_) ∧ CC v7 (w.heap.size + 1 + 1) 0 1 (.int .u8 bv) (.int .u8 bt) ∧ CC v7 u3.heap.size 0 1 (.int .u8 wv) (.int .u8 wt) ∧ CC v7 u6.heap.size 0 1 (.int .u8 bv) (.int .u8 bt) ∧ CC v7 u7.heap.size 0 1 (.int .u8 av) (.int .u8 at_) ∧ CC v7 u8.heap.size 0 1 (.int .u8 wv) (.int .u8 wt) := by
            refine ⟨⟨?_, ?_⟩, ⟨?_, ?_⟩, ⟨?_, ?_⟩, ⟨?_, ?_⟩, ⟨?_, ?_⟩, ⟨?_, ?_⟩, ⟨?_, ?_⟩⟩ <;> refine kc hb ?_ <;> (go_simp; first | done | rfl)
        have hz := hb.size
        (try simp only [World.size_alloc, World.size_setCell, World.size_drew] at hz)
        have L : w.heap.size < v7.heap.size ∧ w.heap.size + 1 < v7.heap.size ∧ w.heap.size + 1 + 1 < v7.heap.size ∧ u3.heap.size < v7.heap.size ∧ u6.heap.size < v7.heap.size ∧ u7.heap.size < v7.heap.size ∧ u8.heap.size < v7.heap.size := by omega
        have hB' : Below w.heap.size w v7 := by
            refine kb ?_ hb
            go_grown
        clear hpq_0 hpq_1 ha_0 ha_1 hb_0 hb_1 hs_0 hs_1 hxb_0 hxb_1 hy_0 hy_1 hz_0 hz_1 hlpq hla hlb hls hlxb hly hlz hnpq0 hnpq1 hkpq1 hnpq2 hkpq2 hna0 hka1 hnb0 hkb1 hns0 hns1 hks1 hns2 hks2 hnxb0 hnxb1 hkxb1 hnxb2 hkxb2 hny0 hny1 hky1 hny2 hky2 hnz0 hnz1 hkz1 hnz2 hkz2 hB hsz
        clear hb hz
        obtain ⟨⟨hpq_0, hpq_1⟩, ⟨ha_0, ha_1⟩, ⟨hb_0, hb_1⟩, ⟨hs_0, hs_1⟩, ⟨hxb_0, hxb_1⟩, ⟨hyy_0, hyy_1⟩, ⟨hz_0, hz_1⟩⟩ := T
        obtain ⟨hlpq, hla, hlb, hls, hlxb, hlyy, hlz⟩ := L
        obtain ⟨hnpq0, hnpq1, hkpq1, hnpq2, hkpq2⟩ := ap0 hlpq
        obtain ⟨hna0, hka1⟩ := ap1 hla
        have hnb0 : ¬ (w.heap.size + 1 + 1 = v7.heap.size) := by omega
        have hkb1 : w.heap.size + 1 < v7.heap.size := by omega
        obtain ⟨hns0, hns1, hks1, hns2, hks2⟩ := ap0 hls
        obtain ⟨hnxb0, hnxb1, hkxb1, hnxb2, hkxb2⟩ := ap0 hlxb
        obtain ⟨hnyy0, hnyy1, hkyy1, hnyy2, hkyy2⟩ := ap0 hlyy
        obtain ⟨hnz0, hnz1, hkz1, hnz2, hkz2⟩ := ap0 hlz
        have hB := hB'; clear hB'
        have hsz := hB.size
        go_wp2_with fail
        ((with_reducible refine (HA.out _ (by go_grown)).mono ?_); rintro _ v8 ⟨rfl, hb⟩)
        have T : CC v8 w.heap.size 0 1 (.int .i64 p) (.int .i64 q) ∧ CC v8 (w.heap.size + 1) 0 1 (.int .u8 av) (.int .u8 at_) ∧ CC v8 (w.heap.size + 1 + 1) 0 1 (.int .u8 bv) (.int .u8 bt) ∧ CC v8 u3.heap.size 0 1 (.int .u8 wv) (.int .u8 wt) ∧ CC v8 u6.heap.size 0 1 (.int .u8 bv) (.int .u8 bt) ∧ CC v8 u7.heap.size 0 1 (.int .u8 av) (.int .u8 at_) ∧ CC v8 u8.heap.size 0 1 (.int .u8 wv) (.int .u8 wt) := by
            refine ⟨⟨?_, ?_⟩, ⟨?_, ?_⟩, ⟨?_, ?_⟩, ⟨?_, ?_⟩, ⟨?_, ?_⟩, ⟨?_, ?_⟩, ⟨?_, ?_⟩⟩ <;> refine kc hb ?_ <;> (go_simp; first | done | rfl)
        have hz := hb.size
        (try simp only [World.size_alloc, World.size_setCell, World.size_drew] at hz)
        have L : w.heap.size < v8.heap.size ∧ w.heap.size + 1 < v8.heap.size ∧ w.heap.size + 1 + 1 < v8.heap.size ∧ u3.heap.size < v8.heap.size ∧ u6.heap.size < v8.heap.size ∧ u7.heap.size < v8.heap.size ∧ u8.heap.size < v8.heap.size := by omega
        have hB' : Below w.heap.size w v8 := by
            refine kb ?_ hb
            go_grown
        clear hpq_0 hpq_1 ha_0 ha_1 hb_0 hb_1 hs_0 hs_1 hxb_0 hxb_1 hyy_0 hyy_1 hz_0 hz_1 hlpq hla hlb hls hlxb hlyy hlz hnpq0 hnpq1 hkpq1 hnpq2 hkpq2 hna0 hka1 hnb0 hkb1 hns0 hns1 hks1 hns2 hks2 hnxb0 hnxb1 hkxb1 hnxb2 hkxb2 hnyy0 hnyy1 hkyy1 hnyy2 hkyy2 hnz0 hnz1 hkz1 hnz2 hkz2 hB hsz
        clear hb hz
        obtain ⟨⟨hpq_0, hpq_1⟩, ⟨ha_0, ha_1⟩, ⟨hb_0, hb_1⟩, ⟨hs_0, hs_1⟩, ⟨hxb_0, hxb_1⟩, ⟨hyy_0, hyy_1⟩, ⟨hz_0, hz_1⟩⟩ := T
        obtain ⟨hlpq, hla, hlb, hls, hlxb, hlyy, hlz⟩ := L
        obtain ⟨hnpq0, hnpq1, hkpq1, hnpq2, hkpq2⟩ := ap0 hlpq
        obtain ⟨hna0, hka1⟩ := ap1 hla
        have hnb0 : ¬ (w.heap.size + 1 + 1 = v8.heap.size) := by omega
        have hkb1 : w.heap.size + 1 < v8.heap.size := by omega
        obtain ⟨hns0, hns1, hks1, hns2, hks2⟩ := ap0 hls
        obtain ⟨hnxb0, hnxb1, hkxb1, hnxb2, hkxb2⟩ := ap0 hlxb
        obtain ⟨hnyy0, hnyy1, hkyy1, hnyy2, hkyy2⟩ := ap0 hlyy
        obtain ⟨hnz0, hnz1, hkz1, hnz2, hkz2⟩ := ap0 hlz
        have hB := hB'; clear hB'
        have hsz := hB.size
        go_wp2
        go_ret
        exact ⟨rfl, by go_grown⟩
  · go_wp2_with fail
    ((with_reducible refine (HR2.out _).mono ?_); rintro _ v2 ⟨rfl, hb⟩)
    have T : CC v2 w.heap.size 0 1 (.int .i64 p) (.int .i64 q) ∧ CC v2 (w.heap.size + 1) 0 1 (.int .u8 av) (.int .u8 at_) ∧ CC v2 (w.heap.size + 1 + 1) 0 1 (.int .u8 bv) (.int .u8 bt) ∧ CC v2 u3.heap.size 0 1 (.int .u8 wv) (.int .u8 wt) ∧ CC v2 u6.heap.size 0 1 (.int .u8 wv) (.int .u8 wt) ∧ CC v2 u7.heap.size 0 1 (.int .u8 yv) (.int .u8 yt) ∧ CC v2 u8.heap.size 0 1 (.int .u8 wv) (.int .u8 wt) := by
        refine ⟨⟨?_, ?_⟩, ⟨?_, ?_⟩, ⟨?_, ?_⟩, ⟨?_, ?_⟩, ⟨?_, ?_⟩, ⟨?_, ?_⟩, ⟨?_, ?_⟩⟩ <;> refine kc hb ?_ <;> (go_simp; first | done | rfl)
    have hz := hb.size
    (try simp only [World.size_alloc, World.size_setCell, World.size_drew] at hz)
    have L : w.heap.size < v2.heap.size ∧ w.heap.size + 1 < v2.heap.size ∧ w.heap.size + 1 + 1 < v2.heap.size ∧ u3.heap.size < v2.heap.size ∧ u6.heap.size < v2.heap.size ∧ u7.heap.size < v2.heap.size ∧ u8.heap.size < v2.heap.size := by omega
    have hB' : Below w.heap.size w v2 := by
        refine kb ?_ hb
        go_grown
    clear hpq_0 hpq_1 ha_0 ha_1 hb_0 hb_1 hs_0 hs_1 hx_0 hx_1 hy_0 hy_1 hz_0 hz_1 hB hsz hlpq hla hlb hls hlx hly hlz hnpq0 hnpq1 hkpq1 hnpq2 hkpq2 hna0 hka1 hnb0 hkb1 hns0 hns1 hks1 hns2 hks2 hnx0 hnx1 hkx1 hnx2 hkx2 hny0 hny1 hky1 hny2 hky2 hnz0 hnz1 hkz1 hnz2 hkz2
    clear hb hz
    obtain ⟨⟨hpq_0, hpq_1⟩, ⟨ha_0, ha_1⟩, ⟨hb_0, hb_1⟩, ⟨hs_0, hs_1⟩, ⟨hxw_0, hxw_1⟩, ⟨hy_0, hy_1⟩, ⟨hz_0, hz_1⟩⟩ := T
    obtain ⟨hlpq, hla, hlb, hls, hlxw, hly, hlz⟩ := L
    obtain ⟨hnpq0, hnpq1, hkpq1, hnpq2, hkpq2⟩ := ap0 hlpq
    obtain ⟨hna0, hka1⟩ := ap1 hla
    have hnb0 : ¬ (w.heap.size + 1 + 1 = v2.heap.size) := by omega
    have hkb1 : w.heap.size + 1 < v2.heap.size := by omega
    obtain ⟨hns0, hns1, hks1, hns2, hks2⟩ := ap0 hls
    obtain ⟨hnxw0, hnxw1, hkxw1, hnxw2, hkxw2⟩ := ap0 hlxw
    obtain ⟨hny0, hny1, hky1, hny2, hky2⟩ := ap0 hly
    obtain ⟨hnz0, hnz1, hkz1, hnz2, hkz2⟩ := ap0 hlz
    have hB := hB'; clear hB'
    have hsz := hB.size
    go_wp2_with fail
    ((with_reducible refine (HR2.out _).mono ?_); rintro _ v3 ⟨rfl, hb⟩)
    have T : CC v3 w.heap.size 0 1 (.int .i64 p) (.int .i64 q) ∧ CC v3 (w.heap.size + 1) 0 1 (.int .u8 av) (.int .u8 at_) ∧ CC v3 (w.heap.size + 1 + 1) 0 1 (.int .u8 bv) (.int .u8 bt) ∧ CC v3 u3.heap.size 0 1 (.int .u8 wv) (.int .u8 wt) ∧ CC v3 u6.heap.size 0 1 (.int .u8 wv) (.int .u8 wt) ∧ CC v3 u7.heap.size 0 1 (.int .u8 yv) (.int .u8 yt) ∧ CC v3 u8.heap.size 0 1 (.int .u8 wv) (.int .u8 wt) := by
        refine ⟨⟨?_, ?_⟩, ⟨?_, ?_⟩, ⟨?_, ?_⟩, ⟨?_, ?_⟩, ⟨?_, ?_⟩, ⟨?_, ?_⟩, ⟨?_, ?_⟩⟩ <;> refine kc hb ?_ <;> (go_simp; first | done | rfl)
    have hz := hb.size
    (try simp only [World.size_alloc, World.size_setCell, World.size_drew] at hz)
    have L : w.heap.size < v3.heap.size ∧ w.heap.size + 1 < v3.heap.size ∧ w.heap.size + 1 + 1 < v3.heap.size ∧ u3.heap.size < v3.heap.size ∧ u6.heap.size < v3.heap.size ∧ u7.heap.size < v3.heap.size ∧ u8.heap.size < v3.heap.size := by omega
    have hB' : Below w.heap.size w v3 := by
        refine kb ?_ hb
        go_grown
    clear hpq_0 hpq_1 ha_0 ha_1 hb_0 hb_1 hs_0 hs_1 hxw_0 hxw_1 hy_0 hy_1 hz_0 hz_1 hlpq hla hlb hls hlxw hly hlz hnpq0 hnpq1 hkpq1 hnpq2 hkpq2 hna0 hka1 hnb0 hkb1 hns0 hns1 hks1 hns2 hks2 hnxw0 hnxw1 hkxw1 hnxw2 hkxw2 hny0 hny1 hky1 hny2 hky2 hnz0 hnz1 hkz1 hnz2 hkz2 hB hsz
    clear hb hz
    obtain ⟨⟨hpq_0, hpq_1⟩, ⟨ha_0, ha_1⟩, ⟨hb_0, hb_1⟩, ⟨hs_0, hs_1⟩, ⟨hxw_0, hxw_1⟩, ⟨hy_0, hy_1⟩, ⟨hz_0, hz_1⟩⟩ := T
    obtain ⟨hlpq, hla, hlb, hls, hlxw, hly, hlz⟩ := L
    obtain ⟨hnpq0, hnpq1, hkpq1, hnpq2, hkpq2⟩ := ap0 hlpq
    obtain ⟨hna0, hka1⟩ := ap1 hla
    have hnb0 : ¬ (w.heap.size + 1 + 1 = v3.heap.size) := by omega
    have hkb1 : w.heap.size + 1 < v3.heap.size := by omega
    obtain ⟨hns0, hns1, hks1, hns2, hks2⟩ := ap0 hls
    obtain ⟨hnxw0, hnxw1, hkxw1, hnxw2, hkxw2⟩ := ap0 hlxw
    obtain ⟨hny0, hny1, hky1, hny2, hky2⟩ := ap0 hly
    obtain ⟨hnz0, hnz1, hkz1, hnz2, hkz2⟩ := ap0 hlz
    have hB := hB'; clear hB'
    have hsz := hB.size
    go_upto_region 17 with fail
    by_cases hpq : p = q
    · have hpq' : (p == q) = true := by simpa using hpq
      clear hpq
      go_wp2_with fail
      ((with_reducible refine (HA.out _ (by go_grown)).mono ?_); rintro _ v8 ⟨rfl, hb⟩)
      have T : CC v8 w.heap.size 0 1 (.int .i64 p) (.int .i64 q) ∧ CC v8 (w.heap.size + 1) 0 1 (.int .u8 av) (.int .u8 at_) ∧ CC v8 (w.heap.size + 1 + 1) 0 1 (.int .u8 bv) (.int .u8 bt) ∧ CC v8 u3.heap.size 0 1 (.int .u8 wv) (.int .u8 wt) ∧ CC v8 u6.heap.size 0 1 (.int .u8 wv) (.int .u8 wt) ∧ CC v8 u7.heap.size 0 1 (.int .u8 yv) (.int .u8 yt) ∧ CC v8 u8.heap.size 0 1 (.int .u8 wv) (.int .u8 wt) := by
          refine ⟨⟨?_, ?_⟩, ⟨?_, ?_⟩, ⟨?_, ?_⟩, ⟨?_, ?_⟩, ⟨?_, ?_⟩, ⟨?_, ?_⟩, ⟨?_, ?_⟩⟩ <;> refine kc hb ?_ <;> (go_simp; first | done | rfl)
      have hz := hb.size
      (try simp only [World.size_alloc, World.size_setCell, World.size_drew] at hz)
      have L : w.heap.size < v8.heap.size ∧ w.heap.size + 1 < v8.heap.size ∧ w.heap.size + 1 + 1 < v8.heap.size ∧ u3.heap.size < v8.heap.size ∧ u6.heap.size < v8.heap.size ∧ u7.heap.size < v8.heap.size ∧ u8.heap.size < v8.heap.size := by omega
      have hB' : Below w.heap.size w v8 := by
          refine kb ?_ hb
          go_grown
      clear hpq_0 hpq_1 ha_0 ha_1 hb_0 hb_1 hs_0 hs_1 hxw_0 hxw_1 hy_0 hy_1 hz_0 hz_1 hlpq hla hlb hls hlxw hly hlz hnpq0 hnpq1 hkpq1 hnpq2 hkpq2 hna0 hka1 hnb0 hkb1 hns0 hns1 hks1 hns2 hks2 hnxw0 hnxw1 hkxw1 hnxw2 hkxw2 hny0 hny1 hky1 hny2 hky2 hnz0 hnz1 hkz1 hnz2 hkz2 hB hsz
      clear hb hz
      obtain ⟨⟨hpq_0, hpq_1⟩, ⟨ha_0, ha_1⟩, ⟨hb_0, hb_1⟩, ⟨hs_0, hs_1⟩, ⟨hxw_0, hxw_1⟩, ⟨hy_0, hy_1⟩, ⟨hz_0, hz_1⟩⟩ := T
      obtain ⟨hlpq, hla, hlb, hls, hlxw, hly, hlz⟩ := L
      obtain ⟨hnpq0, hnpq1, hkpq1, hnpq2, hkpq2⟩ := ap0 hlpq
      obtain ⟨hna0, hka1⟩ := ap1 hla
      have hnb0 : ¬ (w.heap.size + 1 + 1 = v8.heap.size) := by omega
      have hkb1 : w.heap.size + 1 < v8.heap.size := by omega
      obtain ⟨hns0, hns1, hks1, hns2, hks2⟩ := ap0 hls
      obtain ⟨hnxw0, hnxw1, hkxw1, hnxw2, hkxw2⟩ := ap0 hlxw
      obtain ⟨hny0, hny1, hky1, hny2, hky2⟩ := ap0 hly
      obtain ⟨hnz0, hnz1, hkz1, hnz2, hkz2⟩ := ap0 hlz
      have hB := hB'; clear hB'
      have hsz := hB.size
      go_wp2
      go_ret
      exact ⟨rfl, by go_grown⟩
    · have hpq' : (p == q) = false := by simpa using hpq
      rcases HM2.out hpq with hE | ⟨rfl, rfl⟩ | ⟨rfl, rfl, rfl, rfl⟩
      · have hE2 : ¬ E = 0 := by simpa using hE
        have hE3 : (E != 0) = true := by simp [hE2]
        go_wp2_with fail
        ((with_reducible refine (HA.out _ (by go_grown)).mono ?_); rintro _ v8 ⟨rfl, hb⟩)
        have T : CC v8 w.heap.size 0 1 (.int .i64 p) (.int .i64 q) ∧ CC v8 (w.heap.size + 1) 0 1 (.int .u8 av) (.int .u8 at_) ∧ CC v8 (w.heap.size + 1 + 1) 0 1 (.int .u8 bv) (.int .u8 bt) ∧ CC v8 u3.heap.size 0 1 (.int .u8 wv) (.int .u8 wt) ∧ CC v8 u6.heap.size 0 1 (.int .u8 wv) (.int .u8 wt) ∧ CC v8 u7.heap.size 0 1 (.int .u8 yv) (.int .u8 yt) ∧ CC v8 u8.heap.size 0 1 (.int .u8 wv) (.int .u8 wt) := by
            refine ⟨⟨?_, ?_⟩, ⟨?_, ?_⟩, ⟨?_, ?_⟩, ⟨?_, ?_⟩, ⟨?_, ?_⟩, ⟨?_, ?_⟩, ⟨?_, ?_⟩⟩ <;> refine kc hb ?_ <;> (go_simp; first | done | rfl)
        have hz := hb.size
        (try simp only [World.size_alloc, World.size_setCell, World.size_drew] at hz)
        have L : w.heap.size < v8.heap.size ∧ w.heap.size + 1 < v8.heap.size ∧ w.heap.size + 1 + 1 < v8.heap.size ∧ u3.heap.size < v8.heap.size ∧ u6.heap.size < v8.heap.size ∧ u7.heap.size < v8.heap.size ∧ u8.heap.size < v8.heap.size := by omega
        have hB' : Below w.heap.size w v8 := by
            refine kb ?_ hb
            go_grown
        clear hpq_0 hpq_1 ha_0 ha_1 hb_0 hb_1 hs_0 hs_1 hxw_0 hxw_1 hy_0 hy_1 hz_0 hz_1 hlpq hla hlb hls hlxw hly hlz hnpq0 hnpq1 hkpq1 hnpq2 hkpq2 hna0 hka1 hnb0 hkb1 hns0 hns1 hks1 hns2 hks2 hnxw0 hnxw1 hkxw1 hnxw2 hkxw2 hny0 hny1 hky1 hny2 hky2 hnz0 hnz1 hkz1 hnz2 hkz2 hB hsz
        clear hb hz
        obtain ⟨⟨hpq_0, hpq_1⟩, ⟨ha_0, ha_1⟩, ⟨hb_0, hb_1⟩, ⟨hs_0, hs_1⟩, ⟨hxw_0, hxw_1⟩, ⟨hy_0, hy_1⟩, ⟨hz_0, hz_1⟩⟩ := T
        obtain ⟨hlpq, hla, hlb, hls, hlxw, hly, hlz⟩ := L
        obtain ⟨hnpq0, hnpq1, hkpq1, hnpq2, hkpq2⟩ := ap0 hlpq
        obtain ⟨hna0, hka1⟩ := ap1 hla
        have hnb0 : ¬ (w.heap.size + 1 + 1 = v8.heap.size) := by omega
        have hkb1 : w.heap.size + 1 < v8.heap.size := by omega
        obtain ⟨hns0, hns1, hks1, hns2, hks2⟩ := ap0 hls
        obtain ⟨hnxw0, hnxw1, hkxw1, hnxw2, hkxw2⟩ := ap0 hlxw
        obtain ⟨hny0, hny1, hky1, hny2, hky2⟩ := ap0 hly
        obtain ⟨hnz0, hnz1, hkz1, hnz2, hkz2⟩ := ap0 hlz
        have hB := hB'; clear hB'
        have hsz := hB.size
        go_wp2
        go_ret
        exact ⟨rfl, by go_grown⟩
      · go_wp2_with fail
        ((with_reducible refine (HR1.out _).mono ?_); rintro _ v7 ⟨rfl, hb⟩)
        have T : CC v7 w.heap.size 0 1 (.int .i64 p) (.int .i64 q) ∧ CC v7 (w.heap.size + 1) 0 1 (.int .u8 av) (.int .u8 at_) ∧ CC v7 (w.heap.size + 1 + 1) 0 1 (.int .u8 bv) (.int .u8 bt) ∧ CC v7 u3.heap.size 0 1 (.int .u8 wv) (.int .u8 wt) ∧ CC v7 u6.heap.size 0 1 (.int .u8 wv) (.int .u8 wt) ∧ CC v7 u7.heap.size 0 1 (.int .u8 yv) (.int .u8 yt) ∧ CC v7 u8.heap.size 0 1 (.int .u8 wv) (.int .u8 wt) := by
            refine ⟨⟨?_, ?_⟩, ⟨?_, ?_⟩, ⟨?_, ?_⟩, ⟨?_, ?_⟩, ⟨?_, ?_⟩, ⟨?_, ?_⟩, ⟨?_, ?_⟩⟩ <;> refine kc hb ?_ <;> (go_simp; first | done | rfl)
        have hz := hb.size
        (try simp only [World.size_alloc, World.size_setCell, World.size_drew] at hz)
        have L : w.heap.size < v7.heap.size ∧ w.heap.size + 1 < v7.heap.size ∧ w.heap.size + 1 + 1 < v7.heap.size ∧ u3.heap.size < v7.heap.size ∧ u6.heap.size < v7.heap.size ∧ u7.heap.size < v7.heap.size ∧ u8.heap.size < v7.heap.size := by omega
        have hB' : Below w.heap.size w v7 := by
            refine kb ?_ hb
            go_grown
        clear hpq_0 hpq_1 ha_0 ha_1 hb_0 hb_1 hs_0 hs_1 hxw_0 hxw_1 hy_0 hy_1 hz_0 hz_1 hlpq hla hlb hls hlxw hly hlz hnpq0 hnpq1 hkpq1 hnpq2 hkpq2 hna0 hka1 hnb0 hkb1 hns0 hns1 hks1 hns2 hks2 hnxw0 hnxw1 hkxw1 hnxw2 hkxw2 hny0 hny1 hky1 hny2 hky2 hnz0 hnz1 hkz1 hnz2 hkz2 hB hsz
        clear hb hz
        obtain ⟨⟨hpq_0, hpq_1⟩, ⟨ha_0, ha_1⟩, ⟨hb_0, hb_1⟩, ⟨hs_0, hs_1⟩, ⟨hxw_0, hxw_1⟩, ⟨hy_0, hy_1⟩, ⟨hz_0, hz_1⟩⟩ := T
        obtain ⟨hlpq, hla, hlb, hls, hlxw, hly, hlz⟩ := L
        obtain ⟨hnpq0, hnpq1, hkpq1, hnpq2, hkpq2⟩ := ap0 hlpq
        obtain ⟨hna0, hka1⟩ := ap1 hla
        have hnb0 : ¬ (w.heap.size + 1 + 1 = v7.heap.size) := by omega
        have hkb1 : w.heap.size + 1 < v7.heap.size := by omega
        obtain ⟨hns0, hns1, hks1, hns2, hks2⟩ := ap0 hls
        obtain ⟨hnxw0, hnxw1, hkxw1, hnxw2, hkxw2⟩ := ap0 hlxw
        obtain ⟨hny0, hny1, hky1, hny2, hky2⟩ := ap0 hly
        obtain ⟨hnz0, hnz1, hkz1, hnz2, hkz2⟩ := ap0 hlz
        have hB := hB'; clear hB'
        have hsz := hB.size
        go_wp2_with fail
        ((with_reducible refine (HA.out _ (by go_grown)).mono ?_); rintro _ v8 ⟨rfl, hb⟩)
        have T : CC v8 w.heap.size 0 1 (.int .i64 p) (.int .i64 q) ∧ CC v8 (w.heap.size + 1) 0 1 (.int .u8 av) (.int .u8 at_) ∧ CC v8 (w.heap.size + 1 + 1) 0 1 (.int .u8 bv) (.int .u8 bt) ∧ CC v8 u3.heap.size 0 1 (.int .u8 wv) (.int .u8 wt) ∧ CC v8 u6.heap.size 0 1 (.int .u8 wv) (.int .u8 wt) ∧ CC v8 u7.heap.size 0 1 (.int .u8 yv) (.int .u8 yt) ∧ CC v8 u8.heap.size 0 1 (.int .u8 wv) (.int .u8 wt) := by
            refine ⟨⟨?_, ?_⟩, ⟨?_, ?_⟩, ⟨?_, ?_⟩, ⟨?_, ?_⟩, ⟨?_, ?_⟩, ⟨?_, ?_⟩, ⟨?_, ?_⟩⟩ <;> refine kc hb ?_ <;> (go_simp; first | done | rfl)
        have hz := hb.size
        (try simp only [World.size_alloc, World.size_setCell, World.size_drew] at hz)
        have L : w.heap.size < v8.heap.size ∧ w.heap.size + 1 < v8.heap.size ∧ w.heap.size + 1 + 1 < v8.heap.size ∧ u3.heap.size < v8.heap.size ∧ u6.heap.size < v8.heap.size ∧ u7.heap.size < v8.heap.size ∧ u8.heap.size < v8.heap.size := by omega
        have hB' : Below w.heap.size w v8 := by
            refine kb ?_ hb
            go_grown
        clear hpq_0 hpq_1 ha_0 ha_1 hb_0 hb_1 hs_0 hs_1 hxw_0 hxw_1 hy_0 hy_1 hz_0 hz_1 hlpq hla hlb hls hlxw hly hlz hnpq0 hnpq1 hkpq1 hnpq2 hkpq2 hna0 hka1 hnb0 hkb1 hns0 hns1 hks1 hns2 hks2 hnxw0 hnxw1 hkxw1 hnxw2 hkxw2 hny0 hny1 hky1 hny2 hky2 hnz0 hnz1 hkz1 hnz2 hkz2 hB hsz
        clear hb hz
        obtain ⟨⟨hpq_0, hpq_1⟩, ⟨ha_0, ha_1⟩, ⟨hb_0, hb_1⟩, ⟨hs_0, hs_1⟩, ⟨hxw_0, hxw_1⟩, ⟨hy_0, hy_1⟩, ⟨hz_0, hz_1⟩⟩ := T
        obtain ⟨hlpq, hla, hlb, hls, hlxw, hly, hlz⟩ := L
        obtain ⟨hnpq0, hnpq1, hkpq1, hnpq2, hkpq2⟩ := ap0 hlpq
        obtain ⟨hna0, hka1⟩ := ap1 hla
        have hnb0 : ¬ (w.heap.size + 1 + 1 = v8.heap.size) := by omega
        have hkb1 : w.heap.size + 1 < v8.heap.size := by omega
        obtain ⟨hns0, hns1, hks1, hns2, hks2⟩ := ap0 hls
        obtain ⟨hnxw0, hnxw1, hkxw1, hnxw2, hkxw2⟩ := ap0 hlxw
        obtain ⟨hny0, hny1, hky1, hny2, hky2⟩ := ap0 hly
        obtain ⟨hnz0, hnz1, hkz1, hnz2, hkz2⟩ := ap0 hlz
        have hB := hB'; clear hB'
        have hsz := hB.size
        go_wp2
        go_ret
        exact ⟨rfl, by go_grown⟩
      · go_wp2_with fail
        ((with_reducible refine (HR1.out _).mono ?_); rintro _ v7 ⟨rfl, hb⟩)
        have T : CC v7 w.heap.size 0 1 (.int .i64 p) (.int .i64 q) ∧ CC v7 (w.heap.size + 1) 0 1 (.int .u8 av) (.int .u8 at_) ∧ CC v7 (w.heap.size + 1 + 1) 0 1 (.int .u8 bv) (.int .u8 bt) ∧ CC v7 u3.heap.size 0 1 (.int .u8 wv) (.int .u8 wt) ∧ CC v7 u6.heap.size 0 1 (.int .u8 wv) (.int .u8 wt) ∧ CC v7 u7.heap.size 0 1 (.int .u8 av) (.int .u8 at_) ∧ CC v7 u8.heap.size 0 1 (.int .u8 wv) (.int .u8 wt) := by
            refine ⟨⟨?_, ?_⟩, ⟨?_, ?_⟩, ⟨?_, ?_⟩, ⟨?_, ?_⟩, ⟨?_, ?_⟩, ⟨?_, ?_⟩, ⟨?_, ?_⟩⟩ <;> refine kc hb ?_ <;> (go_simp; first | done | rfl)
        have hz := hb.size
        (try simp only [World.size_alloc, World.size_setCell, World.size_drew] at hz)
        have L : w.heap.size < v7.heap.size ∧ w.heap.size + 1 < v7.heap.size ∧ w.heap.size + 1 + 1 < v7.heap.size ∧ u3.heap.size < v7.heap.size ∧ u6.heap.size < v7.heap.size ∧ u7.heap.size < v7.heap.size ∧ u8.heap.size < v7.heap.size := by omega
        have hB' : Below w.heap.size w v7 := by
            refine kb ?_ hb
            go_grown
        clear hpq_0 hpq_1 ha_0 ha_1 hb_0 hb_1 hs_0 hs_1 hxw_0 hxw_1 hy_0 hy_1 hz_0 hz_1 hlpq hla hlb hls hlxw hly hlz hnpq0 hnpq1 hkpq1 hnpq2 hkpq2 hna0 hka1 hnb0 hkb1 hns0 hns1 hks1 hns2 hks2 hnxw0 hnxw1 hkxw1 hnxw2 hkxw2 hny0 hny1 hky1 hny2 hky2 hnz0 hnz1 hkz1 hnz2 hkz2 hB hsz
        clear hb hz
        obtain ⟨⟨hpq_0, hpq_1⟩, ⟨ha_0, ha_1⟩, ⟨hb_0, hb_1⟩, ⟨hs_0, hs_1⟩, ⟨hxw_0, hxw_1⟩, ⟨hyy_0, hyy_1⟩, ⟨hz_0, hz_1⟩⟩ := T
        obtain ⟨hlpq, hla, hlb, hls, hlxw, hlyy, hlz⟩ := L
        obtain ⟨hnpq0, hnpq1, hkpq1, hnpq2, hkpq2⟩ := ap0 hlpq
        obtain ⟨hna0, hka1⟩ := ap1 hla
        have hnb0 : ¬ (w.heap.size + 1 + 1 = v7.heap.size) := by omega
        have hkb1 : w.heap.size + 1 < v7.heap.size := by omega
        obtain ⟨hns0, hns1, hks1, hns2, hks2⟩ := ap0 hls
        obtain ⟨hnxw0, hnxw1, hkxw1, hnxw2, hkxw2⟩ := ap0 hlxw
        obtain ⟨hnyy0, hnyy1, hkyy1, hnyy2, hkyy2⟩ := ap0 hlyy
        obtain ⟨hnz0, hnz1, hkz1, hnz2, hkz2⟩ := ap0 hlz
        have hB := hB'; clear hB'
        have hsz := hB.size
        go_wp2_with fail
        ((with_reducible refine (HA.out _ (by go_grown)).mono ?_); rintro _ v8 ⟨rfl, hb⟩)
        have T : CC v8 w.heap.size 0 1 (.int .i64 p) (.int .i64 q) ∧ CC v8 (w.heap.size + 1) 0 1 (.int .u8 av) (.int .u8 at_) ∧ CC v8 (w.heap.size + 1 + 1) 0 1 (.int .u8 bv) (.int .u8 bt) ∧ CC v8 u3.heap.size 0 1 (.int .u8 wv) (.int .u8 wt) ∧ CC v8 u6.heap.size 0 1 (.int .u8 wv) (.int .u8 wt) ∧ CC v8 u7.heap.size 0 1 (.int .u8 av) (.int .u8 at_) ∧ CC v8 u8.heap.size 0 1 (.int .u8 wv) (.int .u8 wt) := by
            refine ⟨⟨?_, ?_⟩, ⟨?_, ?_⟩, ⟨?_, ?_⟩, ⟨?_, ?_⟩, ⟨?_, ?_⟩, ⟨?_, ?_⟩, ⟨?_, ?_⟩⟩ <;> refine kc hb ?_ <;> (go_simp; first | done | rfl)
        have hz := hb.size
        (try simp only [World.size_alloc, World.size_setCell, World.size_drew] at hz)
        have L : w.heap.size < v8.heap.size ∧ w.heap.size + 1 < v8.heap.size ∧ w.heap.size + 1 + 1 < v8.heap.size ∧ u3.heap.size < v8.heap.size ∧ u6.heap.size < v8.heap.size ∧ u7.heap.size < v8.heap.size ∧ u8.heap.size < v8.heap.size := by omega
        have hB' : Below w.heap.size w v8 := by
            refine kb ?_ hb
            go_grown
        clear hpq_0 hpq_1 ha_0 ha_1 hb_0 hb_1 hs_0 hs_1 hxw_0 hxw_1 hyy_0 hyy_1 hz_0 hz_1 hlpq hla hlb hls hlxw hlyy hlz hnpq0 hnpq1 hkpq1 hnpq2 hkpq2 hna0 hka1 hnb0 hkb1 hns0 hns1 hks1 hns2 hks2 hnxw0 hnxw1 hkxw1 hnxw2 hkxw2 hnyy0 hnyy1 hkyy1 hnyy2 hkyy2 hnz0 hnz1 hkz1 hnz2 hkz2 hB hsz
        clear hb hz
        obtain ⟨⟨hpq_0, hpq_1⟩, ⟨ha_0, ha_1⟩, ⟨hb_0, hb_1⟩, ⟨hs_0, hs_1⟩, ⟨hxw_0, hxw_1⟩, ⟨hyy_0, hyy_1⟩, ⟨hz_0, hz_1⟩⟩ := T
        obtain ⟨hlpq, hla, hlb, hls, hlxw, hlyy, hlz⟩ := L
        obtain ⟨hnpq0, hnpq1, hkpq1, hnpq2, hkpq2⟩ := ap0 hlpq
        obtain ⟨hna0, hka1⟩ := ap1 hla
        have hnb0 : ¬ (w.heap.size + 1 + 1 = v8.heap.size) := by omega
        have hkb1 : w.heap.size + 1 < v8.heap.size := by omega
        obtain ⟨hns0, hns1, hks1, hns2, hks2⟩ := ap0 hls
        obtain ⟨hnxw0, hnxw1, hkxw1, hnxw2, hkxw2⟩ := ap0 hlxw
        obtain ⟨hnyy0, hnyy1, hkyy1, hnyy2, hkyy2⟩ := ap0 hlyy
        obtain ⟨hnz0, hnz1, hkz1, hnz2, hkz2⟩ := ap0 hlz
        have hB := hB'; clear hB'
        have hsz := hB.size
        go_wp2
        go_ret
        exact ⟨rfl, by go_grown⟩
end Go.Proofs.YtoakgchfdihjbaaDoor
