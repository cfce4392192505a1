/-
  WheelNil: its walk.
-/
import Derived.Test.YtkabpnchfhkhgaaNilWalk12
set_option linter.unusedSimpArgs false
set_option linter.unusedVariables false
namespace Go.Proofs.Ytkabpnchfhkhgaa
open Go.RowKit Go.PlainAid

set_option maxRecDepth 100000 in
set_option maxHeartbeats 16000000 in
theorem nil_walk (reg v t : Int) (l m : List Wc) (a b : Value) (w : World) (ha : HoldsW wcE 3 w a l) (hm : HoldsW wcE 3 w b m) (hga : ∀ x ∈ l, wcG x) (hgm : ∀ x ∈ m, wcG x) :
    Calls Try.prog 6 #[.agg #[.int .i64 reg, .int .u8 v, .int .u8 t], .agg #[a, b]] w fun e w' => e = .returned (.bool true) ∧ Below w.heap.size w w' := by
  obtain ⟨pa, ca, rfl⟩ := ha.form
  obtain ⟨pm, cm, rfl⟩ := hm.form
  have HA := Lib.hid ha
  have HM := Lib.hid hm
  have HGA := Lib.hid hga
  have HGM := Lib.hid hgm
  clear ha hm hga hgm
  generalize hln : l.length = n at *
  have HLA := Lib.hid hln
  clear hln
  generalize hln : m.length = q at *
  have HLM := Lib.hid hln
  clear hln
  have hB : Below w.heap.size w w := Below.refl _ _
  by_cases hn : 100 < n
  · have hn' : (100 : Int) < (n : Int) := by omega
    go_enter Try.func6, Try.ntmps6
    go_wp2_with fail
    ((with_reducible refine (awake12_c _).mono ?_); rintro _ u1 ⟨rfl, hb⟩)
    have hz := hb.size
    (try simp only [World.size_alloc, World.size_setCell, World.size_drew] at hz)
    have hB' : Below w.heap.size w u1 := by
        refine kb ?_ hb
        go_grown
    clear hb hz
    have hB := hB'; clear hB'
    have hsz := hB.size
    go_wp2
    go_ret
    exact ⟨rfl, by go_grown⟩
  have hn' : ¬ (100 : Int) < (n : Int) := by omega
  by_cases hq : 100 < q
  · have hq' : (100 : Int) < (q : Int) := by omega
    go_enter Try.func6, Try.ntmps6
    go_wp2_with fail
    ((with_reducible refine (awake12_c _).mono ?_); rintro _ u1 ⟨rfl, hb⟩)
    have hz := hb.size
    (try simp only [World.size_alloc, World.size_setCell, World.size_drew] at hz)
    have hB' : Below w.heap.size w u1 := by
        refine kb ?_ hb
        go_grown
    clear hb hz
    have hB := hB'; clear hB'
    have hsz := hB.size
    go_wp2
    go_ret
    exact ⟨rfl, by go_grown⟩
  have hq' : ¬ (100 : Int) < (q : Int) := by omega
  go_enter Try.func6, Try.ntmps6
  go_wp2_with fail
  ((with_reducible refine (wwrite_nil reg v t _).mono ?_); rintro _ u1 ⟨rfl, hb⟩)
  have T : CC u1 w.heap.size 0 1 (.int .i64 reg) (.int .u8 v) ∧ u1.cell? ⟨w.heap.size, 2, none⟩ = some (.int .u8 t) ∧ CC u1 (w.heap.size + 1) 0 1 (.slice pa n ca) (.slice pm q cm) := by
      refine ⟨⟨?_, ?_⟩, ?_, ⟨?_, ?_⟩⟩ <;> refine kc hb ?_ <;> (go_simp; first | done | rfl)
  have hz := hb.size
  (try simp only [World.size_alloc, World.size_setCell, World.size_drew] at hz)
  have L : w.heap.size < u1.heap.size ∧ w.heap.size + 1 < u1.heap.size := by omega
  have hB' : Below w.heap.size w u1 := by
      refine kb ?_ hb
      go_grown
  clear hb hz
  obtain ⟨⟨ho_0, ho_1⟩, ho_2, ⟨hs_0, hs_1⟩⟩ := T
  obtain ⟨hlo, hls⟩ := L
  obtain ⟨hno0, hno1, hko1, hno2, hko2⟩ := ap0 hlo
  obtain ⟨hns0, hks1⟩ := ap1 hls
  have hB := hB'; clear hB'
  have hsz := hB.size
  go_wp2_with fail
  ((with_reducible refine (wread_nil reg _).mono ?_); rintro _ u2 ⟨rfl, hb⟩)
  have T : CC u2 (w.heap.size + 1) 0 1 (.slice pa n ca) (.slice pm q cm) := by
      refine ⟨?_, ?_⟩ <;> refine kc hb ?_ <;> (go_simp; first | done | rfl)
  have hz := hb.size
  (try simp only [World.size_alloc, World.size_setCell, World.size_drew] at hz)
  have L : w.heap.size + 1 < u2.heap.size := by omega
  have hB' : Below w.heap.size w u2 := by
      refine kb ?_ hb
      go_grown
  clear ho_0 ho_1 ho_2 hs_0 hs_1 hlo hls hno0 hno1 hko1 hno2 hko2 hns0 hks1 hB hsz
  clear hb hz
  obtain ⟨hs_0, hs_1⟩ := T
  have hls := L; clear L
  obtain ⟨hns0, hns1, hks1, hns2, hks2⟩ := ap1f hls
  have hB := hB'; clear hB'
  have hsz := hB.size
  have hl2 : w.heap.size + 1 < u2.heap.size := hls
  go_wp2_with fail
  ((with_reducible refine (wnew_c _).mono ?_); rintro _ u3 ⟨vb, rfl, hpv, hvb, hb⟩)
  have hs_u3 := Lib.hid hb
  have T : CC u3 (w.heap.size + 1) 0 1 (.slice pa n ca) (.slice pm q cm) ∧ CC u3 u2.heap.size 0 1 (.int .u8 0) (.int .u8 0) := by
      refine ⟨⟨?_, ?_⟩, ⟨?_, ?_⟩⟩ <;> refine kc hb ?_ <;> (go_simp; first | done | rfl)
  have hz := hb.size
  (try simp only [World.size_alloc, World.size_setCell, World.size_drew] at hz)
  have L : w.heap.size + 1 < u3.heap.size ∧ u2.heap.size < u3.heap.size := by omega
  have hB' : Below w.heap.size w u3 := by
      refine kb ?_ hb
      go_grown
  clear hs_0 hs_1 hls hns0 hns1 hks1 hns2 hks2 hB hsz
  clear hb hz
  obtain ⟨⟨hs_0, hs_1⟩, ⟨hz_0, hz_1⟩⟩ := T
  obtain ⟨hls, hlz⟩ := L
  obtain ⟨hns0, hns1, hks1, hns2, hks2⟩ := ap1f hls
  obtain ⟨hnz0, hnz1, hkz1, hnz2, hkz2⟩ := ap0 hlz
  have hB := hB'; clear hB'
  have hsz := hB.size
  go_wp2_with fail
  ((with_reducible refine (wnew_c _).mono ?_); rintro _ u4 ⟨wb, rfl, hpw, hwb, hb⟩)
  have hs_u4 := Lib.hid hb
  have T : CC u4 (w.heap.size + 1) 0 1 (.slice pa n ca) (.slice pm q cm) ∧ CC u4 u2.heap.size 0 1 (.int .u8 0) (.int .u8 0) := by
      refine ⟨⟨?_, ?_⟩, ⟨?_, ?_⟩⟩ <;> refine kc hb ?_ <;> (go_simp; first | done | rfl)
  have hz := hb.size
  (try simp only [World.size_alloc, World.size_setCell, World.size_drew] at hz)
  have L : w.heap.size + 1 < u4.heap.size ∧ u2.heap.size < u4.heap.size := by omega
  have hB' : Below w.heap.size w u4 := by
      refine kb ?_ hb
      go_grown
  clear hs_0 hs_1 hz_0 hz_1 hls hlz hns0 hns1 hks1 hns2 hks2 hnz0 hnz1 hkz1 hnz2 hkz2 hB hsz
  clear hb hz
  obtain ⟨⟨hs_0, hs_1⟩, ⟨hz_0, hz_1⟩⟩ := T
  obtain ⟨hls, hlz⟩ := L
  obtain ⟨hns0, hns1, hks1, hns2, hks2⟩ := ap1f hls
  obtain ⟨hnz0, hnz1, hkz1, hnz2, hkz2⟩ := ap0 hlz
  have hB := hB'; clear hB'
  have hsz := hB.size
  have hs4 := hs_u4.out
  have HI : Hid (NilI w vb wb (w.heap.size + 1) (.slice pa n ca) (.slice pm q cm) wh0 wh0 u4) := Lib.hid (by
    have hz3 := hs_u3.out.size
    have hz4 := hs4.size
    have hl3 := hpv.lt
    (try simp only [World.size_alloc] at hvb hwb hz3 hz4)
    exact ⟨hpv.below hs4, hpw, wh0_may, wh0_may, hs_0, hs_1, hB, ⟨by omega, by omega, by omega⟩, ⟨by omega, by omega, by omega⟩⟩)
  clear hpv hpw hvb hwb hl2 hs4 hs_u3 hs_u4
  clear hB
  have hB := Below.refl u4.heap.size u4
  go_wp2_with fail
  ((with_reducible refine (wat_nil _).mono ?_); rintro _ u5 ⟨rfl, hb⟩)
  have T : CC u5 (w.heap.size + 1) 0 1 (.slice pa n ca) (.slice pm q cm) ∧ CC u5 u2.heap.size 0 1 (.int .u8 0) (.int .u8 0) := by
      refine ⟨⟨?_, ?_⟩, ⟨?_, ?_⟩⟩ <;> refine kc hb ?_ <;> (go_simp; first | done | rfl)
  have hz := hb.size
  (try simp only [World.size_alloc, World.size_setCell, World.size_drew] at hz)
  have L : w.heap.size + 1 < u5.heap.size ∧ u2.heap.size < u5.heap.size := by omega
  have hB' : Below u4.heap.size u4 u5 := by
      refine kb ?_ hb
      go_grown
  clear hs_0 hs_1 hz_0 hz_1 hls hlz hns0 hns1 hks1 hns2 hks2 hnz0 hnz1 hkz1 hnz2 hkz2 hB hsz
  clear hb hz
  obtain ⟨⟨hs_0, hs_1⟩, ⟨hz_0, hz_1⟩⟩ := T
  obtain ⟨hls, hlz⟩ := L
  obtain ⟨hns0, hns1, hks1, hns2, hks2⟩ := ap1f hls
  obtain ⟨hnz0, hnz1, hkz1, hnz2, hkz2⟩ := ap0 hlz
  have hB := hB'; clear hB'
  have hsz := hB.size
  go_wp2_with fail
  ((with_reducible refine (wway_nil _).mono ?_); rintro _ u6 ⟨rfl, hb⟩)
  have T : CC u6 (w.heap.size + 1) 0 1 (.slice pa n ca) (.slice pm q cm) ∧ CC u6 u2.heap.size 0 1 (.int .u8 0) (.int .u8 0) := by
      refine ⟨⟨?_, ?_⟩, ⟨?_, ?_⟩⟩ <;> refine kc hb ?_ <;> (go_simp; first | done | rfl)
  have hz := hb.size
  (try simp only [World.size_alloc, World.size_setCell, World.size_drew] at hz)
  have L : w.heap.size + 1 < u6.heap.size ∧ u2.heap.size < u6.heap.size := by omega
  have hB' : Below u4.heap.size u4 u6 := by
      refine kb ?_ hb
      go_grown
  clear hs_0 hs_1 hz_0 hz_1 hls hlz hns0 hns1 hks1 hns2 hks2 hnz0 hnz1 hkz1 hnz2 hkz2 hB hsz
  clear hb hz
  obtain ⟨⟨hs_0, hs_1⟩, ⟨hz_0, hz_1⟩⟩ := T
  obtain ⟨hls, hlz⟩ := L
  obtain ⟨hns0, hns1, hks1, hns2, hks2⟩ := ap1f hls
  obtain ⟨hnz0, hnz1, hkz1, hnz2, hkz2⟩ := ap0 hlz
  have hB := hB'; clear hB'
  have hsz := hB.size
  go_wp2_with fail
  ((with_reducible refine (wclone_nil _).mono ?_); rintro _ u7 ⟨rfl, hb⟩)
  have T : CC u7 (w.heap.size + 1) 0 1 (.slice pa n ca) (.slice pm q cm) ∧ CC u7 u2.heap.size 0 1 (.int .u8 0) (.int .u8 0) := by
      refine ⟨⟨?_, ?_⟩, ⟨?_, ?_⟩⟩ <;> refine kc hb ?_ <;> (go_simp; first | done | rfl)
  have hz := hb.size
  (try simp only [World.size_alloc, World.size_setCell, World.size_drew] at hz)
  have L : w.heap.size + 1 < u7.heap.size ∧ u2.heap.size < u7.heap.size := by omega
  have hB' : Below u4.heap.size u4 u7 := by
      refine kb ?_ hb
      go_grown
  clear hs_0 hs_1 hz_0 hz_1 hls hlz hns0 hns1 hks1 hns2 hks2 hnz0 hnz1 hkz1 hnz2 hkz2 hB hsz
  clear hb hz
  obtain ⟨⟨hs_0, hs_1⟩, ⟨hz_0, hz_1⟩⟩ := T
  obtain ⟨hls, hlz⟩ := L
  obtain ⟨hns0, hns1, hks1, hns2, hks2⟩ := ap1f hls
  obtain ⟨hnz0, hnz1, hkz1, hnz2, hkz2⟩ := ap0 hlz
  have hB := hB'; clear hB'
  have hsz := hB.size
  go_wp2_with fail
  ((with_reducible refine (wsame_nil _).mono ?_); rintro _ u8 ⟨rfl, hb⟩)
  have T : CC u8 (w.heap.size + 1) 0 1 (.slice pa n ca) (.slice pm q cm) ∧ CC u8 u2.heap.size 0 1 (.int .u8 0) (.int .u8 0) := by
      refine ⟨⟨?_, ?_⟩, ⟨?_, ?_⟩⟩ <;> refine kc hb ?_ <;> (go_simp; first | done | rfl)
  have hz := hb.size
  (try simp only [World.size_alloc, World.size_setCell, World.size_drew] at hz)
  have L : w.heap.size + 1 < u8.heap.size ∧ u2.heap.size < u8.heap.size := by omega
  have hB' : Below u4.heap.size u4 u8 := by
      refine kb ?_ hb
      go_grown
  clear hs_0 hs_1 hz_0 hz_1 hls hlz hns0 hns1 hks1 hns2 hks2 hnz0 hnz1 hkz1 hnz2 hkz2 hB hsz
  clear hb hz
  obtain ⟨⟨hs_0, hs_1⟩, ⟨hz_0, hz_1⟩⟩ := T
  obtain ⟨hls, hlz⟩ := L
  obtain ⟨hns0, hns1, hks1, hns2, hks2⟩ := ap1f hls
  obtain ⟨hnz0, hnz1, hkz1, hnz2, hkz2⟩ := ap0 hlz
  have hB := hB'; clear hB'
  have hsz := hB.size
  go_wp2_with fail
  ((with_reducible refine (wsame_nilv vb _).mono ?_); rintro _ u9 ⟨rfl, hb⟩)
  have T : CC u9 (w.heap.size + 1) 0 1 (.slice pa n ca) (.slice pm q cm) ∧ CC u9 u2.heap.size 0 1 (.int .u8 0) (.int .u8 0) := by
      refine ⟨⟨?_, ?_⟩, ⟨?_, ?_⟩⟩ <;> refine kc hb ?_ <;> (go_simp; first | done | rfl)
  have hz := hb.size
  (try simp only [World.size_alloc, World.size_setCell, World.size_drew] at hz)
  have L : w.heap.size + 1 < u9.heap.size ∧ u2.heap.size < u9.heap.size := by omega
  have hB' : Below u4.heap.size u4 u9 := by
      refine kb ?_ hb
      go_grown
  clear hs_0 hs_1 hz_0 hz_1 hls hlz hns0 hns1 hks1 hns2 hks2 hnz0 hnz1 hkz1 hnz2 hkz2 hB hsz
  clear hb hz
  obtain ⟨⟨hs_0, hs_1⟩, ⟨hz_0, hz_1⟩⟩ := T
  obtain ⟨hls, hlz⟩ := L
  obtain ⟨hns0, hns1, hks1, hns2, hks2⟩ := ap1f hls
  obtain ⟨hnz0, hnz1, hkz1, hnz2, hkz2⟩ := ap0 hlz
  have hB := hB'; clear hB'
  have hsz := hB.size
  go_wp2_with fail
  ((with_reducible refine (wsame_vnil vb _).mono ?_); rintro _ u10 ⟨rfl, hb⟩)
  have T : CC u10 (w.heap.size + 1) 0 1 (.slice pa n ca) (.slice pm q cm) ∧ CC u10 u2.heap.size 0 1 (.int .u8 0) (.int .u8 0) := by
      refine ⟨⟨?_, ?_⟩, ⟨?_, ?_⟩⟩ <;> refine kc hb ?_ <;> (go_simp; first | done | rfl)
  have hz := hb.size
  (try simp only [World.size_alloc, World.size_setCell, World.size_drew] at hz)
  have L : w.heap.size + 1 < u10.heap.size ∧ u2.heap.size < u10.heap.size := by omega
  have hB' : Below u4.heap.size u4 u10 := by
      refine kb ?_ hb
      go_grown
  clear hs_0 hs_1 hz_0 hz_1 hls hlz hns0 hns1 hks1 hns2 hks2 hnz0 hnz1 hkz1 hnz2 hkz2 hB hsz
  clear hb hz
  obtain ⟨⟨hs_0, hs_1⟩, ⟨hz_0, hz_1⟩⟩ := T
  obtain ⟨hls, hlz⟩ := L
  obtain ⟨hns0, hns1, hks1, hns2, hks2⟩ := ap1f hls
  obtain ⟨hnz0, hnz1, hkz1, hnz2, hkz2⟩ := ap0 hlz
  have hB := hB'; clear hB'
  have hsz := hB.size
  have HI2 := Lib.hid (HI.out.below hB)
  clear HI hB
  generalize w.heap.size + 1 = lb at *
  clear hsz hls hlz hs_0 hs_1 hz_0 hz_1
  go_wp2_with fail
  go_loopg [12] n (fun kx s12 wr => ∃ k : Nat, s12 = .int .i64 k ∧ k ≤ n ∧ n - k ≤ kx ∧ Hid (∃ R T, NilI w vb wb lb (.slice pa n ca) (.slice pm q cm) R T wr))
  case atStart => exact ⟨0, by simp, Nat.zero_le _, by omega, Lib.hid ⟨_, _, HI2.out⟩⟩
  case round =>
    obtain ⟨k, rfl, hk, hkx, HR⟩ := hrel
    obtain ⟨R, T, hI⟩ := HR.out
    have HI2 := Lib.hid hI
    have HBw := Lib.hid hI.bel
    have s0 := hI.c0
    have s1 := hI.c1
    clear hI HR
    have hls := klt s0
    by_cases hlt : k < n
    · have hd : decide ((k : Int) < (n : Int)) = true := decide_eq_true (by omega)
      have hkl : k < l.length := by have := HLA.out; omega
      obtain ⟨g, o, cap, e1, _, hc⟩ := HA.out.some (by omega)
      rw [HLA.out] at e1
      obtain ⟨rfl, -, rfl⟩ := Value.slice.inj e1
      obtain ⟨y0, y1, y2⟩ := wc_at hc HBw.out hkl
      have hgd := HGA.out l[k] (List.getElem_mem hkl)
      generalize l[k] = X at *
      obtain ⟨xr, xv, xt⟩ := X
      obtain ⟨-, hxv, hxt⟩ := hgd
      dsimp only at y0 y1 y2 hxt hxv
      have hgw : g < w.heap.size := by
        have := hc k _ (List.getElem?_eq_getElem hkl) 0 _ rfl
        exact klt this
      have hge := HI2.out.ge
      have hgv : ¬ g = vb := by omega
      have hlv : ¬ lb = vb := fun e => HI2.out.ne.2.1 e.symm
      have hin : (0 : Int) ≤ (k : Int) ∧ (k : Int) < (n : Int) := by omega
      clear e1 hc hkl hge
      have hgl := klt y0
      go_wp2_with fail
      have HMay := Lib.hid (wrS_may HI2.out.mv xr xv xt hxv)
      have HQ := Lib.hid (fun W (hW : Below wr.heap.size wr W) => wwrite_c vb R HI2.out.mv xr xv xt hxv W (HI2.out.pv.below hW))
      unfold WrEnd at HQ
      obtain ⟨⟨RU, RE⟩, hRE⟩ : ∃ X, wrE xr xt = X := ⟨_, rfl⟩
      rw [hRE] at HQ
      dsimp only at HQ
      obtain ⟨R', hR'⟩ : ∃ R', wrS R xr xv xt = R' := ⟨_, rfl⟩
      rw [hR'] at HQ HMay
      refine wp_region_planXD 9 14 13 (fun bo W => (W.cell? ⟨lb, 0, none⟩ = some (.slice (some ⟨g, o, none⟩) n ca) ∧ OpN g (o + k * 3) xr xv xt W) ∧ bif bo then (Pw vb R' W ∧ Fr (fun k => k = vb) wr W) else Below wr.heap.size wr W) (by decide) (by kernel_rfl) (by kernel_rfl) (by kernel_rfl) (by kernel_rfl) ?_ ?_
      · (try dsimp only)
        refine ⟨⟨s0, y0, y1, y2⟩, ?_⟩
        (try simp only [cond_false]); exact Below.drew (Below.refl _ _)
      (try simp only [List.append_eq, List.cons_append, List.nil_append, List.toList_toArray, List.take_succ_cons, List.take_zero, List.drop_succ_cons, List.drop_zero])
      repeat (first
        | (refine PlanX.val (v := ?_) (by decide) ?_ ?_ ?_; rotate_left; (· rfl); (· (intro bo W hSw; obtain ⟨⟨bx, bx0, bx1, bx2⟩, -⟩ := hSw; go_simp; all_goals (first | (with_reducible rfl) | (constructor <;> (with_reducible rfl))))); (try simp only [Act.put, List.setIfInBounds_toArray, List.set_cons_zero, List.set_cons_succ]))
        | (refine PlanX.turn (v := .tuple #[.int .i64 RU, .int .i64 RE]) (f := ?_) (args := ?_) (by decide) ?_ ?_ ?_ ?_; rotate_left 2; (· rfl); (· (intro W hSw; obtain ⟨⟨bx, bx0, bx1, bx2⟩, -⟩ := hSw; go_simp; all_goals (first | (with_reducible rfl) | (constructor <;> (with_reducible rfl))))); (· (intro W hSw; exact (HQ.out W hSw.2).mono fun e w' ⟨h1, h2, h3⟩ => ⟨h1, ⟨h3.cell hSw.1.1 hlv, h3.cell hSw.1.2.1 hgv, h3.cell hSw.1.2.2.1 hgv, h3.cell hSw.1.2.2.2 hgv⟩, h2, (Fr.ofBelow (F := fun k => k = vb) hSw.2).trans h3 (fun _ _ e => e)⟩)); (try simp only [Act.put, List.setIfInBounds_toArray, List.set_cons_zero, List.set_cons_succ])))
      refine PlanX.done ?_
      intro U TT
      have HU := Lib.hid TT.2
      clear TT y0 y1 y2 s0 s1 hgl HQ hls
      have HI4 := Lib.hid (HI2.out.stepV HU.out.1 HMay.out HU.out.2)
      go_wp2
      go_roundg (n - (k + 1))
      case measure => omega
      case rel => exact ⟨k + 1, by go_num, by omega, by omega, Lib.hid ⟨_, _, HI4.out⟩⟩
    · have hd : decide ((k : Int) < (n : Int)) = false := decide_eq_false (by omega)
      go_wp2_with fail
      clear hd hk hkx hlt s0 s1 hls HBw
      go_loopg [13] q (fun kx s13 wr => ∃ k : Nat, s13 = .int .i64 k ∧ k ≤ q ∧ q - k ≤ kx ∧ Hid (∃ R T, NilI w vb wb lb (.slice pa n ca) (.slice pm q cm) R T wr))
      case atStart => exact ⟨0, by simp, Nat.zero_le _, by omega, Lib.hid ⟨_, _, HI2.out⟩⟩
      case round =>
        obtain ⟨k, rfl, hk, hkx, HR⟩ := hrel
        obtain ⟨R, T, hI⟩ := HR.out
        have HI2 := Lib.hid hI
        have HBw := Lib.hid hI.bel
        have s0 := hI.c0
        have s1 := hI.c1
        clear hI HR
        have hls := klt s0
        by_cases hlt : k < q
        · have hd : decide ((k : Int) < (q : Int)) = true := decide_eq_true (by omega)
          have hkl : k < m.length := by have := HLM.out; omega
          obtain ⟨g, o, cap, e1, _, hc⟩ := HM.out.some (by omega)
          rw [HLM.out] at e1
          obtain ⟨rfl, -, rfl⟩ := Value.slice.inj e1
          obtain ⟨y0, y1, y2⟩ := wc_at hc HBw.out hkl
          have hgd := HGM.out m[k] (List.getElem_mem hkl)
          generalize m[k] = X at *
          obtain ⟨xr, xv, xt⟩ := X
          obtain ⟨-, hxv, hxt⟩ := hgd
          dsimp only at y0 y1 y2 hxt hxv
          have hgw : g < w.heap.size := by
            have := hc k _ (List.getElem?_eq_getElem hkl) 0 _ rfl
            exact klt this
          have hge := HI2.out.ge
          have hgv : ¬ g = wb := by omega
          have hlv : ¬ lb = wb := fun e => HI2.out.ne.2.2 e.symm
          have hin : (0 : Int) ≤ (k : Int) ∧ (k : Int) < (q : Int) := by omega
          clear e1 hc hkl hge
          have hgl := klt y0
          go_wp2_with fail
          have HMay := Lib.hid (wrS_may HI2.out.mw xr xv xt hxv)
          have HQ := Lib.hid (fun W (hW : Below wr.heap.size wr W) => wwrite_c wb T HI2.out.mw xr xv xt hxv W (HI2.out.pw.below hW))
          unfold WrEnd at HQ
          obtain ⟨⟨RU, RE⟩, hRE⟩ : ∃ X, wrE xr xt = X := ⟨_, rfl⟩
          rw [hRE] at HQ
          dsimp only at HQ
          obtain ⟨R', hR'⟩ : ∃ R', wrS T xr xv xt = R' := ⟨_, rfl⟩
          rw [hR'] at HQ HMay
          refine wp_region_planXD 9 14 13 (fun bo W => (W.cell? ⟨lb, 1, none⟩ = some (.slice (some ⟨g, o, none⟩) q cm) ∧ OpN g (o + k * 3) xr xv xt W) ∧ bif bo then (Pw wb R' W ∧ Fr (fun k => k = wb) wr W) else Below wr.heap.size wr W) (by decide) (by kernel_rfl) (by kernel_rfl) (by kernel_rfl) (by kernel_rfl) ?_ ?_
          · (try dsimp only)
            refine ⟨⟨s1, y0, y1, y2⟩, ?_⟩
            (try simp only [cond_false]); exact Below.drew (Below.refl _ _)
          (try simp only [List.append_eq, List.cons_append, List.nil_append, List.toList_toArray, List.take_succ_cons, List.take_zero, List.drop_succ_cons, List.drop_zero])
          repeat (first
            | (refine PlanX.val (v := ?_) (by decide) ?_ ?_ ?_; rotate_left; (· rfl); (· (intro bo W hSw; obtain ⟨⟨bx, bx0, bx1, bx2⟩, -⟩ := hSw; go_simp; all_goals (first | (with_reducible rfl) | (constructor <;> (with_reducible rfl))))); (try simp only [Act.put, List.setIfInBounds_toArray, List.set_cons_zero, List.set_cons_succ]))
            | (refine PlanX.turn (v := .tuple #[.int .i64 RU, .int .i64 RE]) (f := ?_) (args := ?_) (by decide) ?_ ?_ ?_ ?_; rotate_left 2; (· rfl); (· (intro W hSw; obtain ⟨⟨bx, bx0, bx1, bx2⟩, -⟩ := hSw; go_simp; all_goals (first | (with_reducible rfl) | (constructor <;> (with_reducible rfl))))); (· (intro W hSw; exact (HQ.out W hSw.2).mono fun e w' ⟨h1, h2, h3⟩ => ⟨h1, ⟨h3.cell hSw.1.1 hlv, h3.cell hSw.1.2.1 hgv, h3.cell hSw.1.2.2.1 hgv, h3.cell hSw.1.2.2.2 hgv⟩, h2, (Fr.ofBelow (F := fun k => k = wb) hSw.2).trans h3 (fun _ _ e => e)⟩)); (try simp only [Act.put, List.setIfInBounds_toArray, List.set_cons_zero, List.set_cons_succ])))
          refine PlanX.done ?_
          intro U TT
          have HU := Lib.hid TT.2
          clear TT y0 y1 y2 s0 s1 hgl HQ hls
          have HI4 := Lib.hid (HI2.out.stepW HU.out.1 HMay.out HU.out.2)
          go_wp2
          go_roundg (q - (k + 1))
          case measure => omega
          case rel => exact ⟨k + 1, by go_num, by omega, by omega, Lib.hid ⟨_, _, HI4.out⟩⟩
        · have hd : decide ((k : Int) < (q : Int)) = false := decide_eq_false (by omega)
          go_wp2_with fail
          clear hd hk hkx hlt s0 s1 hls HA HM HGA HGM HLA HLM
          have hR := HI2.out.mv
          have hT := HI2.out.mw
          have e1 := zF_eq (m := R.x) (n := T.x) (by have := hR.x; rw [p53]; omega) (by have := hT.x; rw [p53]; omega)
          have e2 := zF_eq (m := R.y) (n := T.y) (by have := hR.y; rw [p53]; omega) (by have := hT.y; rw [p53]; omega)
          have e3 := zF_eq (small_ways R.q).1 (small_ways T.q).1
          have e4 := zF_eq (small_ways R.q).2 (small_ways T.q).2
          have e5 : (R.b == T.b) = decide (R.b = T.b) := rfl
          have HRv : Hid (∀ W, Below wr.heap.size wr W → Calls Try.prog 12 #[.pointer (some ⟨vb, 0, none⟩), .int .i64 0] W fun e w' => e = .returned (.tuple #[.agg #[.int .u8 R.b, .int .u8 0], .int .i64 0]) ∧ Below W.heap.size W w') := Lib.hid (fun W hW => wread_c vb R HI2.out.mv 0 W (HI2.out.pv.below hW))
          have HRw : Hid (∀ W, Below wr.heap.size wr W → Calls Try.prog 12 #[.pointer (some ⟨wb, 0, none⟩), .int .i64 0] W fun e w' => e = .returned (.tuple #[.agg #[.int .u8 T.b, .int .u8 0], .int .i64 0]) ∧ Below W.heap.size W w') := Lib.hid (fun W hW => wread_c wb T HI2.out.mw 0 W (HI2.out.pw.below hW))
          have HAv := Lib.hid (fun W (hW : Below wr.heap.size wr W) => wat_c vb R W (HI2.out.pv.below hW))
          have HAw := Lib.hid (fun W (hW : Below wr.heap.size wr W) => wat_c wb T W (HI2.out.pw.below hW))
          have HYv := Lib.hid (fun W (hW : Below wr.heap.size wr W) => wway_c vb R W (HI2.out.pv.below hW))
          have HYw := Lib.hid (fun W (hW : Below wr.heap.size wr W) => wway_c wb T W (HI2.out.pw.below hW))
          have HS1 := Lib.hid (fun W (hW : Below wr.heap.size wr W) => wsame_c vb wb R T HI2.out.mv HI2.out.mw W (HI2.out.pv.below hW) (HI2.out.pw.below hW))
          have HS2 := Lib.hid (fun W (hW : Below wr.heap.size wr W) => wsame_c wb vb T R HI2.out.mw HI2.out.mv W (HI2.out.pw.below hW) (HI2.out.pv.below hW))
          rw [sameW_comm T R] at HS2
          unfold sameW at HS1 HS2
          rw [← ways_inj hR.q hT.q] at HS1 HS2
          unfold cV at HAv HAw HYv HYw
          clear hR hT HI2
          generalize zF R.x = X at *
          generalize zF R.y = Y at *
          generalize zF (waysX R.q) = A at *
          generalize zF (waysY R.q) = B at *
          generalize zF T.x = X' at *
          generalize zF T.y = Y' at *
          generalize zF (waysX T.q) = A' at *
          generalize zF (waysY T.q) = B' at *
          generalize decide (R.x = T.x) = D1 at *
          generalize decide (R.y = T.y) = D2 at *
          generalize decide (waysX R.q = waysX T.q) = D3 at *
          generalize decide (waysY R.q = waysY T.q) = D4 at *
          generalize decide (R.b = T.b) = D5 at *
          have hcase : D1 = false ∨ (D1 = true ∧ D2 = false) ∨ (D1 = true ∧ D2 = true ∧ D3 = false) ∨ (D1 = true ∧ D2 = true ∧ D3 = true ∧ D4 = false) ∨ (D1 = true ∧ D2 = true ∧ D3 = true ∧ D4 = true ∧ D5 = false) ∨ (D1 = true ∧ D2 = true ∧ D3 = true ∧ D4 = true ∧ D5 = true) := by
            cases D1 <;> cases D2 <;> cases D3 <;> cases D4 <;> cases D5 <;> simp
          rcases hcase with rfl | ⟨rfl, rfl⟩ | ⟨rfl, rfl, rfl⟩ | ⟨rfl, rfl, rfl, rfl⟩ | ⟨rfl, rfl, rfl, rfl, rfl⟩ | ⟨rfl, rfl, rfl, rfl, rfl⟩
          · (try simp only [Bool.false_and, Bool.true_and, Bool.and_false, Bool.and_true] at HS1 HS2)
            have hB := Below.refl wr.heap.size wr
            ((with_reducible refine (HRv.out _ hB).mono ?_); rintro _ a1 ⟨rfl, hb⟩)
            have hz := hb.size
            (try simp only [World.size_alloc, World.size_setCell, World.size_drew] at hz)
            have hB' : Below wr.heap.size wr a1 := by
                refine kb ?_ hb
                go_grown
            clear hb hz
            have hB := hB'; clear hB'
            have hsz := hB.size
            go_wp2_with fail
            ((with_reducible refine (HRw.out _ (by go_grown)).mono ?_); rintro _ a2 ⟨rfl, hb⟩)
            have T : CC a2 a1.heap.size 0 1 (.int .u8 R.b) (.int .u8 0) := by
                refine ⟨?_, ?_⟩ <;> refine kc hb ?_ <;> (go_simp; first | done | rfl)
            have hz := hb.size
            (try simp only [World.size_alloc, World.size_setCell, World.size_drew] at hz)
            have L : a1.heap.size < a2.heap.size := by omega
            have hB' : Below wr.heap.size wr a2 := by
                refine kb ?_ hb
                go_grown
            clear hB hsz
            clear hb hz
            obtain ⟨hx_0, hx_1⟩ := T
            have hlx := L; clear L
            obtain ⟨hnx0, hnx1, hkx1, hnx2, hkx2⟩ := ap0 hlx
            have hB := hB'; clear hB'
            have hsz := hB.size
            go_wp2_with fail
            ((with_reducible refine (HAv.out _ (by go_grown)).mono ?_); rintro _ a3 ⟨rfl, hb⟩)
            have T : CC a3 a1.heap.size 0 1 (.int .u8 R.b) (.int .u8 0) ∧ CC a3 a2.heap.size 0 1 (.int .u8 T.b) (.int .u8 0) := by
                refine ⟨⟨?_, ?_⟩, ⟨?_, ?_⟩⟩ <;> refine kc hb ?_ <;> (go_simp; first | done | rfl)
            have hz := hb.size
            (try simp only [World.size_alloc, World.size_setCell, World.size_drew] at hz)
            have L : a1.heap.size < a3.heap.size ∧ a2.heap.size < a3.heap.size := by omega
            have hB' : Below wr.heap.size wr a3 := by
                refine kb ?_ hb
                go_grown
            clear hx_0 hx_1 hlx hnx0 hnx1 hkx1 hnx2 hkx2 hB hsz
            clear hb hz
            obtain ⟨⟨hx_0, hx_1⟩, ⟨hy_0, hy_1⟩⟩ := T
            obtain ⟨hlx, hly⟩ := L
            obtain ⟨hnx0, hnx1, hkx1, hnx2, hkx2⟩ := ap0 hlx
            obtain ⟨hny0, hny1, hky1, hny2, hky2⟩ := ap0 hly
            have hB := hB'; clear hB'
            have hsz := hB.size
            go_wp2_with fail
            ((with_reducible refine (HAw.out _ hB).mono ?_); rintro _ a4 ⟨rfl, hb⟩)
            have T : CC a4 a1.heap.size 0 1 (.int .u8 R.b) (.int .u8 0) ∧ CC a4 a2.heap.size 0 1 (.int .u8 T.b) (.int .u8 0) := by
                refine ⟨⟨?_, ?_⟩, ⟨?_, ?_⟩⟩ <;> refine kc hb ?_ <;> (go_simp; first | done | rfl)
            have hz := hb.size
            (try simp only [World.size_alloc, World.size_setCell, World.size_drew] at hz)
            have L : a1.heap.size < a4.heap.size ∧ a2.heap.size < a4.heap.size := by omega
            have hB' : Below wr.heap.size wr a4 := by
                refine kb ?_ hb
                go_grown
            clear hx_0 hx_1 hy_0 hy_1 hlx hly hnx0 hnx1 hkx1 hnx2 hkx2 hny0 hny1 hky1 hny2 hky2 hB hsz
            clear hb hz
            obtain ⟨⟨hx_0, hx_1⟩, ⟨hy_0, hy_1⟩⟩ := T
            obtain ⟨hlx, hly⟩ := L
            obtain ⟨hnx0, hnx1, hkx1, hnx2, hkx2⟩ := ap0 hlx
            obtain ⟨hny0, hny1, hky1, hny2, hky2⟩ := ap0 hly
            have hB := hB'; clear hB'
            have hsz := hB.size
            go_wp2_with fail
            ((with_reducible refine (HS1.out _ hB).mono ?_); rintro _ a7 ⟨rfl, hb⟩)
            have T : CC a7 a1.heap.size 0 1 (.int .u8 R.b) (.int .u8 0) ∧ CC a7 a2.heap.size 0 1 (.int .u8 T.b) (.int .u8 0) := by
                refine ⟨⟨?_, ?_⟩, ⟨?_, ?_⟩⟩ <;> refine kc hb ?_ <;> (go_simp; first | done | rfl)
            have hz := hb.size
            (try simp only [World.size_alloc, World.size_setCell, World.size_drew] at hz)
            have L : a1.heap.size < a7.heap.size ∧ a2.heap.size < a7.heap.size := by omega
            have hB' : Below wr.heap.size wr a7 := by
                refine kb ?_ hb
                go_grown
            clear hx_0 hx_1 hy_0 hy_1 hlx hly hnx0 hnx1 hkx1 hnx2 hkx2 hny0 hny1 hky1 hny2 hky2 hB hsz
            clear hb hz
            obtain ⟨⟨hx_0, hx_1⟩, ⟨hy_0, hy_1⟩⟩ := T
            obtain ⟨hlx, hly⟩ := L
            obtain ⟨hnx0, hnx1, hkx1, hnx2, hkx2⟩ := ap0 hlx
            obtain ⟨hny0, hny1, hky1, hny2, hky2⟩ := ap0 hly
            have hB := hB'; clear hB'
            have hsz := hB.size
            go_wp2_with fail
            ((with_reducible refine (HS2.out _ hB).mono ?_); rintro _ a8 ⟨rfl, hb⟩)
            have T : CC a8 a1.heap.size 0 1 (.int .u8 R.b) (.int .u8 0) ∧ CC a8 a2.heap.size 0 1 (.int .u8 T.b) (.int .u8 0) := by
                refine ⟨⟨?_, ?_⟩, ⟨?_, ?_⟩⟩ <;> refine kc hb ?_ <;> (go_simp; first | done | rfl)
            have hz := hb.size
            (try simp only [World.size_alloc, World.size_setCell, World.size_drew] at hz)
            have L : a1.heap.size < a8.heap.size ∧ a2.heap.size < a8.heap.size := by omega
            have hB' : Below wr.heap.size wr a8 := by
                refine kb ?_ hb
                go_grown
            clear hx_0 hx_1 hy_0 hy_1 hlx hly hnx0 hnx1 hkx1 hnx2 hkx2 hny0 hny1 hky1 hny2 hky2 hB hsz
            clear hb hz
            obtain ⟨⟨hx_0, hx_1⟩, ⟨hy_0, hy_1⟩⟩ := T
            obtain ⟨hlx, hly⟩ := L
            obtain ⟨hnx0, hnx1, hkx1, hnx2, hkx2⟩ := ap0 hlx
            obtain ⟨hny0, hny1, hky1, hny2, hky2⟩ := ap0 hly
            have hB := hB'; clear hB'
            have hsz := hB.size
            go_wp2_with fail
            ((with_reducible refine (awake12_c _).mono ?_); rintro _ a9 ⟨rfl, hb⟩)
            have T : CC a9 a1.heap.size 0 1 (.int .u8 R.b) (.int .u8 0) ∧ CC a9 a2.heap.size 0 1 (.int .u8 T.b) (.int .u8 0) := by
                refine ⟨⟨?_, ?_⟩, ⟨?_, ?_⟩⟩ <;> refine kc hb ?_ <;> (go_simp; first | done | rfl)
            have hz := hb.size
            (try simp only [World.size_alloc, World.size_setCell, World.size_drew] at hz)
            have L : a1.heap.size < a9.heap.size ∧ a2.heap.size < a9.heap.size := by omega
            have hB' : Below wr.heap.size wr a9 := by
                refine kb ?_ hb
                go_grown
            clear hx_0 hx_1 hy_0 hy_1 hlx hly hnx0 hnx1 hkx1 hnx2 hkx2 hny0 hny1 hky1 hny2 hky2 hB hsz
            clear hb hz
            obtain ⟨⟨hx_0, hx_1⟩, ⟨hy_0, hy_1⟩⟩ := T
            obtain ⟨hlx, hly⟩ := L
            obtain ⟨hnx0, hnx1, hkx1, hnx2, hkx2⟩ := ap0 hlx
            obtain ⟨hny0, hny1, hky1, hny2, hky2⟩ := ap0 hly
            have hB := hB'; clear hB'
            have hsz := hB.size
            go_wp2
            go_ret
            exact ⟨rfl, HBw.out.trans ((show Below wr.heap.size wr _ from by go_grown).mono HBw.out.size)⟩
          · (try simp only [Bool.false_and, Bool.true_and, Bool.and_false, Bool.and_true] at HS1 HS2)
            have hB := Below.refl wr.heap.size wr
            ((with_reducible refine (HRv.out _ hB).mono ?_); rintro _ a1 ⟨rfl, hb⟩)
            have hz := hb.size
            (try simp only [World.size_alloc, World.size_setCell, World.size_drew] at hz)
            have hB' : Below wr.heap.size wr a1 := by
                refine kb ?_ hb
                go_grown
            clear hb hz
            have hB := hB'; clear hB'
            have hsz := hB.size
            go_wp2_with fail
            ((with_reducible refine (HRw.out _ (by go_grown)).mono ?_); rintro _ a2 ⟨rfl, hb⟩)
            have T : CC a2 a1.heap.size 0 1 (.int .u8 R.b) (.int .u8 0) := by
                refine ⟨?_, ?_⟩ <;> refine kc hb ?_ <;> (go_simp; first | done | rfl)
            have hz := hb.size
            (try simp only [World.size_alloc, World.size_setCell, World.size_drew] at hz)
            have L : a1.heap.size < a2.heap.size := by omega
            have hB' : Below wr.heap.size wr a2 := by
                refine kb ?_ hb
                go_grown
            clear hB hsz
            clear hb hz
            obtain ⟨hx_0, hx_1⟩ := T
            have hlx := L; clear L
            obtain ⟨hnx0, hnx1, hkx1, hnx2, hkx2⟩ := ap0 hlx
            have hB := hB'; clear hB'
            have hsz := hB.size
            go_wp2_with fail
            ((with_reducible refine (HAv.out _ (by go_grown)).mono ?_); rintro _ a3 ⟨rfl, hb⟩)
            have T : CC a3 a1.heap.size 0 1 (.int .u8 R.b) (.int .u8 0) ∧ CC a3 a2.heap.size 0 1 (.int .u8 T.b) (.int .u8 0) := by
                refine ⟨⟨?_, ?_⟩, ⟨?_, ?_⟩⟩ <;> refine kc hb ?_ <;> (go_simp; first | done | rfl)
            have hz := hb.size
            (try simp only [World.size_alloc, World.size_setCell, World.size_drew] at hz)
            have L : a1.heap.size < a3.heap.size ∧ a2.heap.size < a3.heap.size := by omega
            have hB' : Below wr.heap.size wr a3 := by
                refine kb ?_ hb
                go_grown
            clear hx_0 hx_1 hlx hnx0 hnx1 hkx1 hnx2 hkx2 hB hsz
            clear hb hz
            obtain ⟨⟨hx_0, hx_1⟩, ⟨hy_0, hy_1⟩⟩ := T
            obtain ⟨hlx, hly⟩ := L
            obtain ⟨hnx0, hnx1, hkx1, hnx2, hkx2⟩ := ap0 hlx
            obtain ⟨hny0, hny1, hky1, hny2, hky2⟩ := ap0 hly
            have hB := hB'; clear hB'
            have hsz := hB.size
            go_wp2_with fail
            ((with_reducible refine (HAw.out _ hB).mono ?_); rintro _ a4 ⟨rfl, hb⟩)
            have T : CC a4 a1.heap.size 0 1 (.int .u8 R.b) (.int .u8 0) ∧ CC a4 a2.heap.size 0 1 (.int .u8 T.b) (.int .u8 0) := by
                refine ⟨⟨?_, ?_⟩, ⟨?_, ?_⟩⟩ <;> refine kc hb ?_ <;> (go_simp; first | done | rfl)
            have hz := hb.size
            (try simp only [World.size_alloc, World.size_setCell, World.size_drew] at hz)
            have L : a1.heap.size < a4.heap.size ∧ a2.heap.size < a4.heap.size := by omega
            have hB' : Below wr.heap.size wr a4 := by
                refine kb ?_ hb
                go_grown
            clear hx_0 hx_1 hy_0 hy_1 hlx hly hnx0 hnx1 hkx1 hnx2 hkx2 hny0 hny1 hky1 hny2 hky2 hB hsz
            clear hb hz
            obtain ⟨⟨hx_0, hx_1⟩, ⟨hy_0, hy_1⟩⟩ := T
            obtain ⟨hlx, hly⟩ := L
            obtain ⟨hnx0, hnx1, hkx1, hnx2, hkx2⟩ := ap0 hlx
            obtain ⟨hny0, hny1, hky1, hny2, hky2⟩ := ap0 hly
            have hB := hB'; clear hB'
            have hsz := hB.size
            go_wp2_with fail
            ((with_reducible refine (HS1.out _ hB).mono ?_); rintro _ a7 ⟨rfl, hb⟩)
            have T : CC a7 a1.heap.size 0 1 (.int .u8 R.b) (.int .u8 0) ∧ CC a7 a2.heap.size 0 1 (.int .u8 T.b) (.int .u8 0) := by
                refine ⟨⟨?_, ?_⟩, ⟨?_, ?_⟩⟩ <;> refine kc hb ?_ <;> (go_simp; first | done | rfl)
            have hz := hb.size
            (try simp only [World.size_alloc, World.size_setCell, World.size_drew] at hz)
            have L : a1.heap.size < a7.heap.size ∧ a2.heap.size < a7.heap.size := by omega
            have hB' : Below wr.heap.size wr a7 := by
                refine kb ?_ hb
                go_grown
            clear hx_0 hx_1 hy_0 hy_1 hlx hly hnx0 hnx1 hkx1 hnx2 hkx2 hny0 hny1 hky1 hny2 hky2 hB hsz
            clear hb hz
            obtain ⟨⟨hx_0, hx_1⟩, ⟨hy_0, hy_1⟩⟩ := T
            obtain ⟨hlx, hly⟩ := L
            obtain ⟨hnx0, hnx1, hkx1, hnx2, hkx2⟩ := ap0 hlx
            obtain ⟨hny0, hny1, hky1, hny2, hky2⟩ := ap0 hly
            have hB := hB'; clear hB'
            have hsz := hB.size
            go_wp2_with fail
            ((with_reducible refine (HS2.out _ hB).mono ?_); rintro _ a8 ⟨rfl, hb⟩)
            have T : CC a8 a1.heap.size 0 1 (.int .u8 R.b) (.int .u8 0) ∧ CC a8 a2.heap.size 0 1 (.int .u8 T.b) (.int .u8 0) := by
                refine ⟨⟨?_, ?_⟩, ⟨?_, ?_⟩⟩ <;> refine kc hb ?_ <;> (go_simp; first | done | rfl)
            have hz := hb.size
            (try simp only [World.size_alloc, World.size_setCell, World.size_drew] at hz)
            have L : a1.heap.size < a8.heap.size ∧ a2.heap.size < a8.heap.size := by omega
            have hB' : Below wr.heap.size wr a8 := by
                refine kb ?_ hb
                go_grown
            clear hx_0 hx_1 hy_0 hy_1 hlx hly hnx0 hnx1 hkx1 hnx2 hkx2 hny0 hny1 hky1 hny2 hky2 hB hsz
            clear hb hz
            obtain ⟨⟨hx_0, hx_1⟩, ⟨hy_0, hy_1⟩⟩ := T
            obtain ⟨hlx, hly⟩ := L
            obtain ⟨hnx0, hnx1, hkx1, hnx2, hkx2⟩ := ap0 hlx
            obtain ⟨hny0, hny1, hky1, hny2, hky2⟩ := ap0 hly
            have hB := hB'; clear hB'
            have hsz := hB.size
            go_wp2_with fail
            ((with_reducible refine (awake12_c _).mono ?_); rintro _ a9 ⟨rfl, hb⟩)
            have T : CC a9 a1.heap.size 0 1 (.int .u8 R.b) (.int .u8 0) ∧ CC a9 a2.heap.size 0 1 (.int .u8 T.b) (.int .u8 0) := by
                refine ⟨⟨?_, ?_⟩, ⟨?_, ?_⟩⟩ <;> refine kc hb ?_ <;> (go_simp; first | done | rfl)
            have hz := hb.size
            (try simp only [World.size_alloc, World.size_setCell, World.size_drew] at hz)
            have L : a1.heap.size < a9.heap.size ∧ a2.heap.size < a9.heap.size := by omega
            have hB' : Below wr.heap.size wr a9 := by
                refine kb ?_ hb
                go_grown
            clear hx_0 hx_1 hy_0 hy_1 hlx hly hnx0 hnx1 hkx1 hnx2 hkx2 hny0 hny1 hky1 hny2 hky2 hB hsz
            clear hb hz
            obtain ⟨⟨hx_0, hx_1⟩, ⟨hy_0, hy_1⟩⟩ := T
            obtain ⟨hlx, hly⟩ := L
            obtain ⟨hnx0, hnx1, hkx1, hnx2, hkx2⟩ := ap0 hlx
            obtain ⟨hny0, hny1, hky1, hny2, hky2⟩ := ap0 hly
            have hB := hB'; clear hB'
            have hsz := hB.size
            go_wp2
            go_ret
            exact ⟨rfl, HBw.out.trans ((show Below wr.heap.size wr _ from by go_grown).mono HBw.out.size)⟩
          · (try simp only [Bool.false_and, Bool.true_and, Bool.and_false, Bool.and_true] at HS1 HS2)
            have hB := Below.refl wr.heap.size wr
            ((with_reducible refine (HRv.out _ hB).mono ?_); rintro _ a1 ⟨rfl, hb⟩)
            have hz := hb.size
            (try simp only [World.size_alloc, World.size_setCell, World.size_drew] at hz)
            have hB' : Below wr.heap.size wr a1 := by
                refine kb ?_ hb
                go_grown
            clear hb hz
            have hB := hB'; clear hB'
            have hsz := hB.size
            go_wp2_with fail
            ((with_reducible refine (HRw.out _ (by go_grown)).mono ?_); rintro _ a2 ⟨rfl, hb⟩)
            have T : CC a2 a1.heap.size 0 1 (.int .u8 R.b) (.int .u8 0) := by
                refine ⟨?_, ?_⟩ <;> refine kc hb ?_ <;> (go_simp; first | done | rfl)
            have hz := hb.size
            (try simp only [World.size_alloc, World.size_setCell, World.size_drew] at hz)
            have L : a1.heap.size < a2.heap.size := by omega
            have hB' : Below wr.heap.size wr a2 := by
                refine kb ?_ hb
                go_grown
            clear hB hsz
            clear hb hz
            obtain ⟨hx_0, hx_1⟩ := T
            have hlx := L; clear L
            obtain ⟨hnx0, hnx1, hkx1, hnx2, hkx2⟩ := ap0 hlx
            have hB := hB'; clear hB'
            have hsz := hB.size
            go_wp2_with fail
            ((with_reducible refine (HAv.out _ (by go_grown)).mono ?_); rintro _ a3 ⟨rfl, hb⟩)
            have T : CC a3 a1.heap.size 0 1 (.int .u8 R.b) (.int .u8 0) ∧ CC a3 a2.heap.size 0 1 (.int .u8 T.b) (.int .u8 0) := by
                refine ⟨⟨?_, ?_⟩, ⟨?_, ?_⟩⟩ <;> refine kc hb ?_ <;> (go_simp; first | done | rfl)
            have hz := hb.size
            (try simp only [World.size_alloc, World.size_setCell, World.size_drew] at hz)
            have L : a1.heap.size < a3.heap.size ∧ a2.heap.size < a3.heap.size := by omega
            have hB' : Below wr.heap.size wr a3 := by
                refine kb ?_ hb
                go_grown
            clear hx_0 hx_1 hlx hnx0 hnx1 hkx1 hnx2 hkx2 hB hsz
            clear hb hz
            obtain ⟨⟨hx_0, hx_1⟩, ⟨hy_0, hy_1⟩⟩ := T
            obtain ⟨hlx, hly⟩ := L
            obtain ⟨hnx0, hnx1, hkx1, hnx2, hkx2⟩ := ap0 hlx
            obtain ⟨hny0, hny1, hky1, hny2, hky2⟩ := ap0 hly
            have hB := hB'; clear hB'
            have hsz := hB.size
            go_wp2_with fail
            ((with_reducible refine (HAw.out _ hB).mono ?_); rintro _ a4 ⟨rfl, hb⟩)
            have T : CC a4 a1.heap.size 0 1 (.int .u8 R.b) (.int .u8 0) ∧ CC a4 a2.heap.size 0 1 (.int .u8 T.b) (.int .u8 0) := by
                refine ⟨⟨?_, ?_⟩, ⟨?_, ?_⟩⟩ <;> refine kc hb ?_ <;> (go_simp; first | done | rfl)
            have hz := hb.size
            (try simp only [World.size_alloc, World.size_setCell, World.size_drew] at hz)
            have L : a1.heap.size < a4.heap.size ∧ a2.heap.size < a4.heap.size := by omega
            have hB' : Below wr.heap.size wr a4 := by
                refine kb ?_ hb
                go_grown
            clear hx_0 hx_1 hy_0 hy_1 hlx hly hnx0 hnx1 hkx1 hnx2 hkx2 hny0 hny1 hky1 hny2 hky2 hB hsz
            clear hb hz
            obtain ⟨⟨hx_0, hx_1⟩, ⟨hy_0, hy_1⟩⟩ := T
            obtain ⟨hlx, hly⟩ := L
            obtain ⟨hnx0, hnx1, hkx1, hnx2, hkx2⟩ := ap0 hlx
            obtain ⟨hny0, hny1, hky1, hny2, hky2⟩ := ap0 hly
            have hB := hB'; clear hB'
            have hsz := hB.size
            go_wp2_with fail
            ((with_reducible refine (HYv.out _ hB).mono ?_); rintro _ a5 ⟨rfl, hb⟩)
            have T : CC a5 a1.heap.size 0 1 (.int .u8 R.b) (.int .u8 0) ∧ CC a5 a2.heap.size 0 1 (.int .u8 T.b) (.int .u8 0) := by
                refine ⟨⟨?_, ?_⟩, ⟨?_, ?_⟩⟩ <;> refine kc hb ?_ <;> (go_simp; first | done | rfl)
            have hz := hb.size
            (try simp only [World.size_alloc, World.size_setCell, World.size_drew] at hz)
            have L : a1.heap.size < a5.heap.size ∧ a2.heap.size < a5.heap.size := by omega
            have hB' : Below wr.heap.size wr a5 := by
                refine kb ?_ hb
                go_grown
            clear hx_0 hx_1 hy_0 hy_1 hlx hly hnx0 hnx1 hkx1 hnx2 hkx2 hny0 hny1 hky1 hny2 hky2 hB hsz
            clear hb hz
            obtain ⟨⟨hx_0, hx_1⟩, ⟨hy_0, hy_1⟩⟩ := T
            obtain ⟨hlx, hly⟩ := L
            obtain ⟨hnx0, hnx1, hkx1, hnx2, hkx2⟩ := ap0 hlx
            obtain ⟨hny0, hny1, hky1, hny2, hky2⟩ := ap0 hly
            have hB := hB'; clear hB'
            have hsz := hB.size
            go_wp2_with fail
            ((with_reducible refine (HYw.out _ hB).mono ?_); rintro _ a6 ⟨rfl, hb⟩)
            have T : CC a6 a1.heap.size 0 1 (.int .u8 R.b) (.int .u8 0) ∧ CC a6 a2.heap.size 0 1 (.int .u8 T.b) (.int .u8 0) := by
                refine ⟨⟨?_, ?_⟩, ⟨?_, ?_⟩⟩ <;> refine kc hb ?_ <;> (go_simp; first | done | rfl)
            have hz := hb.size
            (try simp only [World.size_alloc, World.size_setCell, World.size_drew] at hz)
            have L : a1.heap.size < a6.heap.size ∧ a2.heap.size < a6.heap.size := by omega
            have hB' : Below wr.heap.size wr a6 := by
                refine kb ?_ hb
                go_grown
            clear hx_0 hx_1 hy_0 hy_1 hlx hly hnx0 hnx1 hkx1 hnx2 hkx2 hny0 hny1 hky1 hny2 hky2 hB hsz
            clear hb hz
            obtain ⟨⟨hx_0, hx_1⟩, ⟨hy_0, hy_1⟩⟩ := T
            obtain ⟨hlx, hly⟩ := L
            obtain ⟨hnx0, hnx1, hkx1, hnx2, hkx2⟩ := ap0 hlx
            obtain ⟨hny0, hny1, hky1, hny2, hky2⟩ := ap0 hly
            have hB := hB'; clear hB'
            have hsz := hB.size
            go_wp2_with fail
            ((with_reducible refine (HS1.out _ hB).mono ?_); rintro _ a7 ⟨rfl, hb⟩)
            have T : CC a7 a1.heap.size 0 1 (.int .u8 R.b) (.int .u8 0) ∧ CC a7 a2.heap.size 0 1 (.int .u8 T.b) (.int .u8 0) := by
                refine ⟨⟨?_, ?_⟩, ⟨?_, ?_⟩⟩ <;> refine kc hb ?_ <;> (go_simp; first | done | rfl)
            have hz := hb.size
            (try simp only [World.size_alloc, World.size_setCell, World.size_drew] at hz)
            have L : a1.heap.size < a7.heap.size ∧ a2.heap.size < a7.heap.size := by omega
            have hB' : Below wr.heap.size wr a7 := by
                refine kb ?_ hb
                go_grown
            clear hx_0 hx_1 hy_0 hy_1 hlx hly hnx0 hnx1 hkx1 hnx2 hkx2 hny0 hny1 hky1 hny2 hky2 hB hsz
            clear hb hz
            obtain ⟨⟨hx_0, hx_1⟩, ⟨hy_0, hy_1⟩⟩ := T
            obtain ⟨hlx, hly⟩ := L
            obtain ⟨hnx0, hnx1, hkx1, hnx2, hkx2⟩ := ap0 hlx
            obtain ⟨hny0, hny1, hky1, hny2, hky2⟩ := ap0 hly
            have hB := hB'; clear hB'
            have hsz := hB.size
            go_wp2_with fail
            ((with_reducible refine (HS2.out _ hB).mono ?_); rintro _ a8 ⟨rfl, hb⟩)
            have T : CC a8 a1.heap.size 0 1 (.int .u8 R.b) (.int .u8 0) ∧ CC a8 a2.heap.size 0 1 (.int .u8 T.b) (.int .u8 0) := by
                refine ⟨⟨?_, ?_⟩, ⟨?_, ?_⟩⟩ <;> refine kc hb ?_ <;> (go_simp; first | done | rfl)
            have hz := hb.size
            (try simp only [World.size_alloc, World.size_setCell, World.size_drew] at hz)
            have L : a1.heap.size < a8.heap.size ∧ a2.heap.size < a8.heap.size := by omega
            have hB' : Below wr.heap.size wr a8 := by
                refine kb ?_ hb
                go_grown
            clear hx_0 hx_1 hy_0 hy_1 hlx hly hnx0 hnx1 hkx1 hnx2 hkx2 hny0 hny1 hky1 hny2 hky2 hB hsz
            clear hb hz
            obtain ⟨⟨hx_0, hx_1⟩, ⟨hy_0, hy_1⟩⟩ := T
            obtain ⟨hlx, hly⟩ := L
            obtain ⟨hnx0, hnx1, hkx1, hnx2, hkx2⟩ := ap0 hlx
            obtain ⟨hny0, hny1, hky1, hny2, hky2⟩ := ap0 hly
            have hB := hB'; clear hB'
            have hsz := hB.size
            go_wp2_with fail
            ((with_reducible refine (awake12_c _).mono ?_); rintro _ a9 ⟨rfl, hb⟩)
            have T : CC a9 a1.heap.size 0 1 (.int .u8 R.b) (.int .u8 0) ∧ CC a9 a2.heap.size 0 1 (.int .u8 T.b) (.int .u8 0) := by
                refine ⟨⟨?_, ?_⟩, ⟨?_, ?_⟩⟩ <;> refine kc hb ?_ <;> (go_simp; first | done | rfl)
            have hz := hb.size
            (try simp only [World.size_alloc, World.size_setCell, World.size_drew] at hz)
            have L : a1.heap.size < a9.heap.size ∧ a2.heap.size < a9.heap.size := by omega
            have hB' : Below wr.heap.size wr a9 := by
                refine kb ?_ hb
                go_grown
            clear hx_0 hx_1 hy_0 hy_1 hlx hly hnx0 hnx1 hkx1 hnx2 hkx2 hny0 hny1 hky1 hny2 hky2 hB hsz
            clear hb hz
            obtain ⟨⟨hx_0, hx_1⟩, ⟨hy_0, hy_1⟩⟩ := T
            obtain ⟨hlx, hly⟩ := L
            obtain ⟨hnx0, hnx1, hkx1, hnx2, hkx2⟩ := ap0 hlx
            obtain ⟨hny0, hny1, hky1, hny2, hky2⟩ := ap0 hly
            have hB := hB'; clear hB'
            have hsz := hB.size
            go_wp2
            go_ret
            exact ⟨rfl, HBw.out.trans ((show Below wr.heap.size wr _ from by go_grown).mono HBw.out.size)⟩
          · (try simp only [Bool.false_and, Bool.true_and, Bool.and_false, Bool.and_true] at HS1 HS2)
            have hB := Below.refl wr.heap.size wr
            ((with_reducible refine (HRv.out _ hB).mono ?_); rintro _ a1 ⟨rfl, hb⟩)
            have hz := hb.size
            (try simp only [World.size_alloc, World.size_setCell, World.size_drew] at hz)
            have hB' : Below wr.heap.size wr a1 := by
                refine kb ?_ hb
                go_grown
            clear hb hz
            have hB := hB'; clear hB'
            have hsz := hB.size
            go_wp2_with fail
            ((with_reducible refine (HRw.out _ (by go_grown)).mono ?_); rintro _ a2 ⟨rfl, hb⟩)
            have T : CC a2 a1.heap.size 0 1 (.int .u8 R.b) (.int .u8 0) := by
                refine ⟨?_, ?_⟩ <;> refine kc hb ?_ <;> (go_simp; first | done | rfl)
            have hz := hb.size
            (try simp only [World.size_alloc, World.size_setCell, World.size_drew] at hz)
            have L : a1.heap.size < a2.heap.size := by omega
            have hB' : Below wr.heap.size wr a2 := by
                refine kb ?_ hb
                go_grown
            clear hB hsz
            clear hb hz
            obtain ⟨hx_0, hx_1⟩ := T
            have hlx := L; clear L
            obtain ⟨hnx0, hnx1, hkx1, hnx2, hkx2⟩ := ap0 hlx
            have hB := hB'; clear hB'
            have hsz := hB.size
            go_wp2_with fail
            ((with_reducible refine (HAv.out _ (by go_grown)).mono ?_); rintro _ a3 ⟨rfl, hb⟩)
            have T : CC a3 a1.heap.size 0 1 (.int .u8 R.b) (.int .u8 0) ∧ CC a3 a2.heap.size 0 1 (.int .u8 T.b) (.int .u8 0) := by
                refine ⟨⟨?_, ?_⟩, ⟨?_, ?_⟩⟩ <;> refine kc hb ?_ <;> (go_simp; first | done | rfl)
            have hz := hb.size
            (try simp only [World.size_alloc, World.size_setCell, World.size_drew] at hz)
            have L : a1.heap.size < a3.heap.size ∧ a2.heap.size < a3.heap.size := by omega
            have hB' : Below wr.heap.size wr a3 := by
                refine kb ?_ hb
                go_grown
            clear hx_0 hx_1 hlx hnx0 hnx1 hkx1 hnx2 hkx2 hB hsz
            clear hb hz
            obtain ⟨⟨hx_0, hx_1⟩, ⟨hy_0, hy_1⟩⟩ := T
            obtain ⟨hlx, hly⟩ := L
            obtain ⟨hnx0, hnx1, hkx1, hnx2, hkx2⟩ := ap0 hlx
            obtain ⟨hny0, hny1, hky1, hny2, hky2⟩ := ap0 hly
            have hB := hB'; clear hB'
            have hsz := hB.size
            go_wp2_with fail
            ((with_reducible refine (HAw.out _ hB).mono ?_); rintro _ a4 ⟨rfl, hb⟩)
            have T : CC a4 a1.heap.size 0 1 (.int .u8 R.b) (.int .u8 0) ∧ CC a4 a2.heap.size 0 1 (.int .u8 T.b) (.int .u8 0) := by
                refine ⟨⟨?_, ?_⟩, ⟨?_, ?_⟩⟩ <;> refine kc hb ?_ <;> (go_simp; first | done | rfl)
            have hz := hb.size
            (try simp only [World.size_alloc, World.size_setCell, World.size_drew] at hz)
            have L : a1.heap.size < a4.heap.size ∧ a2.heap.size < a4.heap.size := by omega
            have hB' : Below wr.heap.size wr a4 := by
                refine kb ?_ hb
                go_grown
            clear hx_0 hx_1 hy_0 hy_1 hlx hly hnx0 hnx1 hkx1 hnx2 hkx2 hny0 hny1 hky1 hny2 hky2 hB hsz
            clear hb hz
            obtain ⟨⟨hx_0, hx_1⟩, ⟨hy_0, hy_1⟩⟩ := T
            obtain ⟨hlx, hly⟩ := L
            obtain ⟨hnx0, hnx1, hkx1, hnx2, hkx2⟩ := ap0 hlx
            obtain ⟨hny0, hny1, hky1, hny2, hky2⟩ := ap0 hly
            have hB := hB'; clear hB'
            have hsz := hB.size
            go_wp2_with fail
            ((with_reducible refine (HYv.out _ hB).mono ?_); rintro _ a5 ⟨rfl, hb⟩)
            have T : CC a5 a1.heap.size 0 1 (.int .u8 R.b) (.int .u8 0) ∧ CC a5 a2.heap.size 0 1 (.int .u8 T.b) (.int .u8 0) := by
                refine ⟨⟨?_, ?_⟩, ⟨?_, ?_⟩⟩ <;> refine kc hb ?_ <;> (go_simp; first | done | rfl)
            have hz := hb.size
            (try simp only [World.size_alloc, World.size_setCell, World.size_drew] at hz)
            have L : a1.heap.size < a5.heap.size ∧ a2.heap.size < a5.heap.size := by omega
            have hB' : Below wr.heap.size wr a5 := by
                refine kb ?_ hb
                go_grown
            clear hx_0 hx_1 hy_0 hy_1 hlx hly hnx0 hnx1 hkx1 hnx2 hkx2 hny0 hny1 hky1 hny2 hky2 hB hsz
            clear hb hz
            obtain ⟨⟨hx_0, hx_1⟩, ⟨hy_0, hy_1⟩⟩ := T
            obtain ⟨hlx, hly⟩ := L
            obtain ⟨hnx0, hnx1, hkx1, hnx2, hkx2⟩ := ap0 hlx
            obtain ⟨hny0, hny1, hky1, hny2, hky2⟩ := ap0 hly
            have hB := hB'; clear hB'
            have hsz := hB.size
            go_wp2_with fail
            ((with_reducible refine (HYw.out _ hB).mono ?_); rintro _ a6 ⟨rfl, hb⟩)
            have T : CC a6 a1.heap.size 0 1 (.int .u8 R.b) (.int .u8 0) ∧ CC a6 a2.heap.size 0 1 (.int .u8 T.b) (.int .u8 0) := by
                refine ⟨⟨?_, ?_⟩, ⟨?_, ?_⟩⟩ <;> refine kc hb ?_ <;> (go_simp; first | done | rfl)
            have hz := hb.size
            (try simp only [World.size_alloc, World.size_setCell, World.size_drew] at hz)
            have L : a1.heap.size < a6.heap.size ∧ a2.heap.size < a6.heap.size := by omega
            have hB' : Below wr.heap.size wr a6 := by
                refine kb ?_ hb
                go_grown
            clear hx_0 hx_1 hy_0 hy_1 hlx hly hnx0 hnx1 hkx1 hnx2 hkx2 hny0 hny1 hky1 hny2 hky2 hB hsz
            clear hb hz
            obtain ⟨⟨hx_0, hx_1⟩, ⟨hy_0, hy_1⟩⟩ := T
            obtain ⟨hlx, hly⟩ := L
            obtain ⟨hnx0, hnx1, hkx1, hnx2, hkx2⟩ := ap0 hlx
            obtain ⟨hny0, hny1, hky1, hny2, hky2⟩ := ap0 hly
            have hB := hB'; clear hB'
            have hsz := hB.size
            go_wp2_with fail
            ((with_reducible refine (HS1.out _ hB).mono ?_); rintro _ a7 ⟨rfl, hb⟩)
            have T : CC a7 a1.heap.size 0 1 (.int .u8 R.b) (.int .u8 0) ∧ CC a7 a2.heap.size 0 1 (.int .u8 T.b) (.int .u8 0) := by
                refine ⟨⟨?_, ?_⟩, ⟨?_, ?_⟩⟩ <;> refine kc hb ?_ <;> (go_simp; first | done | rfl)
            have hz := hb.size
            (try simp only [World.size_alloc, World.size_setCell, World.size_drew] at hz)
            have L : a1.heap.size < a7.heap.size ∧ a2.heap.size < a7.heap.size := by omega
            have hB' : Below wr.heap.size wr a7 := by
                refine kb ?_ hb
                go_grown
            clear hx_0 hx_1 hy_0 hy_1 hlx hly hnx0 hnx1 hkx1 hnx2 hkx2 hny0 hny1 hky1 hny2 hky2 hB hsz
            clear hb hz
            obtain ⟨⟨hx_0, hx_1⟩, ⟨hy_0, hy_1⟩⟩ := T
            obtain ⟨hlx, hly⟩ := L
            obtain ⟨hnx0, hnx1, hkx1, hnx2, hkx2⟩ := ap0 hlx
            obtain ⟨hny0, hny1, hky1, hny2, hky2⟩ := ap0 hly
            have hB := hB'; clear hB'
            have hsz := hB.size
            go_wp2_with fail
            ((with_reducible refine (HS2.out _ hB).mono ?_); rintro _ a8 ⟨rfl, hb⟩)
            have T : CC a8 a1.heap.size 0 1 (.int .u8 R.b) (.int .u8 0) ∧ CC a8 a2.heap.size 0 1 (.int .u8 T.b) (.int .u8 0) := by
                refine ⟨⟨?_, ?_⟩, ⟨?_, ?_⟩⟩ <;> refine kc hb ?_ <;> (go_simp; first | done | rfl)
            have hz := hb.size
            (try simp only [World.size_alloc, World.size_setCell, World.size_drew] at hz)
            have L : a1.heap.size < a8.heap.size ∧ a2.heap.size < a8.heap.size := by omega
            have hB' : Below wr.heap.size wr a8 := by
                refine kb ?_ hb
                go_grown
            clear hx_0 hx_1 hy_0 hy_1 hlx hly hnx0 hnx1 hkx1 hnx2 hkx2 hny0 hny1 hky1 hny2 hky2 hB hsz
            clear hb hz
            obtain ⟨⟨hx_0, hx_1⟩, ⟨hy_0, hy_1⟩⟩ := T
            obtain ⟨hlx, hly⟩ := L
            obtain ⟨hnx0, hnx1, hkx1, hnx2, hkx2⟩ := ap0 hlx
            obtain ⟨hny0, hny1, hky1, hny2, hky2⟩ := ap0 hly
            have hB := hB'; clear hB'
            have hsz := hB.size
            go_wp2_with fail
            ((with_reducible refine (awake12_c _).mono ?_); rintro _ a9 ⟨rfl, hb⟩)
            have T : CC a9 a1.heap.size 0 1 (.int .u8 R.b) (.int .u8 0) ∧ CC a9 a2.heap.size 0 1 (.int .u8 T.b) (.int .u8 0) := by
                refine ⟨⟨?_, ?_⟩, ⟨?_, ?_⟩⟩ <;> refine kc hb ?_ <;> (go_simp; first | done | rfl)
            have hz := hb.size
            (try simp only [World.size_alloc, World.size_setCell, World.size_drew] at hz)
            have L : a1.heap.size < a9.heap.size ∧ a2.heap.size < a9.heap.size := by omega
            have hB' : Below wr.heap.size wr a9 := by
                refine kb ?_ hb
                go_grown
            clear hx_0 hx_1 hy_0 hy_1 hlx hly hnx0 hnx1 hkx1 hnx2 hkx2 hny0 hny1 hky1 hny2 hky2 hB hsz
            clear hb hz
            obtain ⟨⟨hx_0, hx_1⟩, ⟨hy_0, hy_1⟩⟩ := T
            obtain ⟨hlx, hly⟩ := L
            obtain ⟨hnx0, hnx1, hkx1, hnx2, hkx2⟩ := ap0 hlx
            obtain ⟨hny0, hny1, hky1, hny2, hky2⟩ := ap0 hly
            have hB := hB'; clear hB'
            have hsz := hB.size
            go_wp2
            go_ret
            exact ⟨rfl, HBw.out.trans ((show Below wr.heap.size wr _ from by go_grown).mono HBw.out.size)⟩
          · (try simp only [Bool.false_and, Bool.true_and, Bool.and_false, Bool.and_true] at HS1 HS2)
            have hB := Below.refl wr.heap.size wr
            ((with_reducible refine (HRv.out _ hB).mono ?_); rintro _ a1 ⟨rfl, hb⟩)
            have hz := hb.size
            (try simp only [World.size_alloc, World.size_setCell, World.size_drew] at hz)
            have hB' : Below wr.heap.size wr a1 := by
                refine kb ?_ hb
                go_grown
            clear hb hz
            have hB := hB'; clear hB'
            have hsz := hB.size
            go_wp2_with fail
            ((with_reducible refine (HRw.out _ (by go_grown)).mono ?_); rintro _ a2 ⟨rfl, hb⟩)
            have T : CC a2 a1.heap.size 0 1 (.int .u8 R.b) (.int .u8 0) := by
                refine ⟨?_, ?_⟩ <;> refine kc hb ?_ <;> (go_simp; first | done | rfl)
            have hz := hb.size
            (try simp only [World.size_alloc, World.size_setCell, World.size_drew] at hz)
            have L : a1.heap.size < a2.heap.size := by omega
            have hB' : Below wr.heap.size wr a2 := by
                refine kb ?_ hb
                go_grown
            clear hB hsz
            clear hb hz
            obtain ⟨hx_0, hx_1⟩ := T
            have hlx := L; clear L
            obtain ⟨hnx0, hnx1, hkx1, hnx2, hkx2⟩ := ap0 hlx
            have hB := hB'; clear hB'
            have hsz := hB.size
            go_wp2_with fail
            ((with_reducible refine (HAv.out _ (by go_grown)).mono ?_); rintro _ a3 ⟨rfl, hb⟩)
            have T : CC a3 a1.heap.size 0 1 (.int .u8 R.b) (.int .u8 0) ∧ CC a3 a2.heap.size 0 1 (.int .u8 T.b) (.int .u8 0) := by
                refine ⟨⟨?_, ?_⟩, ⟨?_, ?_⟩⟩ <;> refine kc hb ?_ <;> (go_simp; first | done | rfl)
            have hz := hb.size
            (try simp only [World.size_alloc, World.size_setCell, World.size_drew] at hz)
            have L : a1.heap.size < a3.heap.size ∧ a2.heap.size < a3.heap.size := by omega
            have hB' : Below wr.heap.size wr a3 := by
                refine kb ?_ hb
                go_grown
            clear hx_0 hx_1 hlx hnx0 hnx1 hkx1 hnx2 hkx2 hB hsz
            clear hb hz
            obtain ⟨⟨hx_0, hx_1⟩, ⟨hy_0, hy_1⟩⟩ := T
            obtain ⟨hlx, hly⟩ := L
            obtain ⟨hnx0, hnx1, hkx1, hnx2, hkx2⟩ := ap0 hlx
            obtain ⟨hny0, hny1, hky1, hny2, hky2⟩ := ap0 hly
            have hB := hB'; clear hB'
            have hsz := hB.size
            go_wp2_with fail
            ((with_reducible refine (HAw.out _ hB).mono ?_); rintro _ a4 ⟨rfl, hb⟩)
            have T : CC a4 a1.heap.size 0 1 (.int .u8 R.b) (.int .u8 0) ∧ CC a4 a2.heap.size 0 1 (.int .u8 T.b) (.int .u8 0) := by
                refine ⟨⟨?_, ?_⟩, ⟨?_, ?_⟩⟩ <;> refine kc hb ?_ <;> (go_simp; first | done | rfl)
            have hz := hb.size
            (try simp only [World.size_alloc, World.size_setCell, World.size_drew] at hz)
            have L : a1.heap.size < a4.heap.size ∧ a2.heap.size < a4.heap.size := by omega
            have hB' : Below wr.heap.size wr a4 := by
                refine kb ?_ hb
                go_grown
            clear hx_0 hx_1 hy_0 hy_1 hlx hly hnx0 hnx1 hkx1 hnx2 hkx2 hny0 hny1 hky1 hny2 hky2 hB hsz
            clear hb hz
            obtain ⟨⟨hx_0, hx_1⟩, ⟨hy_0, hy_1⟩⟩ := T
            obtain ⟨hlx, hly⟩ := L
            obtain ⟨hnx0, hnx1, hkx1, hnx2, hkx2⟩ := ap0 hlx
            obtain ⟨hny0, hny1, hky1, hny2, hky2⟩ := ap0 hly
            have hB := hB'; clear hB'
            have hsz := hB.size
            go_wp2_with fail
            ((with_reducible refine (HYv.out _ hB).mono ?_); rintro _ a5 ⟨rfl, hb⟩)
            have T : CC a5 a1.heap.size 0 1 (.int .u8 R.b) (.int .u8 0) ∧ CC a5 a2.heap.size 0 1 (.int .u8 T.b) (.int .u8 0) := by
                refine ⟨⟨?_, ?_⟩, ⟨?_, ?_⟩⟩ <;> refine kc hb ?_ <;> (go_simp; first | done | rfl)
            have hz := hb.size
            (try simp only [World.size_alloc, World.size_setCell, World.size_drew] at hz)
            have L : a1.heap.size < a5.heap.size ∧ a2.heap.size < a5.heap.size := by omega
            have hB' : Below wr.heap.size wr a5 := by
                refine kb ?_ hb
                go_grown
            clear hx_0 hx_1 hy_0 hy_1 hlx hly hnx0 hnx1 hkx1 hnx2 hkx2 hny0 hny1 hky1 hny2 hky2 hB hsz
            clear hb hz
            obtain ⟨⟨hx_0, hx_1⟩, ⟨hy_0, hy_1⟩⟩ := T
            obtain ⟨hlx, hly⟩ := L
            obtain ⟨hnx0, hnx1, hkx1, hnx2, hkx2⟩ := ap0 hlx
            obtain ⟨hny0, hny1, hky1, hny2, hky2⟩ := ap0 hly
            have hB := hB'; clear hB'
            have hsz := hB.size
            go_wp2_with fail
            ((with_reducible refine (HYw.out _ hB).mono ?_); rintro _ a6 ⟨rfl, hb⟩)
            have T : CC a6 a1.heap.size 0 1 (.int .u8 R.b) (.int .u8 0) ∧ CC a6 a2.heap.size 0 1 (.int .u8 T.b) (.int .u8 0) := by
                refine ⟨⟨?_, ?_⟩, ⟨?_, ?_⟩⟩ <;> refine kc hb ?_ <;> (go_simp; first | done | rfl)
            have hz := hb.size
            (try simp only [World.size_alloc, World.size_setCell, World.size_drew] at hz)
            have L : a1.heap.size < a6.heap.size ∧ a2.heap.size < a6.heap.size := by omega
            have hB' : Below wr.heap.size wr a6 := by
                refine kb ?_ hb
                go_grown
            clear hx_0 hx_1 hy_0 hy_1 hlx hly hnx0 hnx1 hkx1 hnx2 hkx2 hny0 hny1 hky1 hny2 hky2 hB hsz
            clear hb hz
            obtain ⟨⟨hx_0, hx_1⟩, ⟨hy_0, hy_1⟩⟩ := T
            obtain ⟨hlx, hly⟩ := L
            obtain ⟨hnx0, hnx1, hkx1, hnx2, hkx2⟩ := ap0 hlx
            obtain ⟨hny0, hny1, hky1, hny2, hky2⟩ := ap0 hly
            have hB := hB'; clear hB'
            have hsz := hB.size
            go_wp2_with fail
            ((with_reducible refine (HS1.out _ hB).mono ?_); rintro _ a7 ⟨rfl, hb⟩)
            have T : CC a7 a1.heap.size 0 1 (.int .u8 R.b) (.int .u8 0) ∧ CC a7 a2.heap.size 0 1 (.int .u8 T.b) (.int .u8 0) := by
                refine ⟨⟨?_, ?_⟩, ⟨?_, ?_⟩⟩ <;> refine kc hb ?_ <;> (go_simp; first | done | rfl)
            have hz := hb.size
            (try simp only [World.size_alloc, World.size_setCell, World.size_drew] at hz)
            have L : a1.heap.size < a7.heap.size ∧ a2.heap.size < a7.heap.size := by omega
            have hB' : Below wr.heap.size wr a7 := by
                refine kb ?_ hb
                go_grown
            clear hx_0 hx_1 hy_0 hy_1 hlx hly hnx0 hnx1 hkx1 hnx2 hkx2 hny0 hny1 hky1 hny2 hky2 hB hsz
            clear hb hz
            obtain ⟨⟨hx_0, hx_1⟩, ⟨hy_0, hy_1⟩⟩ := T
            obtain ⟨hlx, hly⟩ := L
            obtain ⟨hnx0, hnx1, hkx1, hnx2, hkx2⟩ := ap0 hlx
            obtain ⟨hny0, hny1, hky1, hny2, hky2⟩ := ap0 hly
            have hB := hB'; clear hB'
            have hsz := hB.size
            go_wp2_with fail
            ((with_reducible refine (HS2.out _ hB).mono ?_); rintro _ a8 ⟨rfl, hb⟩)
            have T : CC a8 a1.heap.size 0 1 (.int .u8 R.b) (.int .u8 0) ∧ CC a8 a2.heap.size 0 1 (.int .u8 T.b) (.int .u8 0) := by
                refine ⟨⟨?_, ?_⟩, ⟨?_, ?_⟩⟩ <;> refine kc hb ?_ <;> (go_simp; first | done | rfl)
            have hz := hb.size
            (try simp only [World.size_alloc, World.size_setCell, World.size_drew] at hz)
            have L : a1.heap.size < a8.heap.size ∧ a2.heap.size < a8.heap.size := by omega
            have hB' : Below wr.heap.size wr a8 := by
                refine kb ?_ hb
                go_grown
            clear hx_0 hx_1 hy_0 hy_1 hlx hly hnx0 hnx1 hkx1 hnx2 hkx2 hny0 hny1 hky1 hny2 hky2 hB hsz
            clear hb hz
            obtain ⟨⟨hx_0, hx_1⟩, ⟨hy_0, hy_1⟩⟩ := T
            obtain ⟨hlx, hly⟩ := L
            obtain ⟨hnx0, hnx1, hkx1, hnx2, hkx2⟩ := ap0 hlx
            obtain ⟨hny0, hny1, hky1, hny2, hky2⟩ := ap0 hly
            have hB := hB'; clear hB'
            have hsz := hB.size
            go_wp2_with fail
            ((with_reducible refine (awake12_c _).mono ?_); rintro _ a9 ⟨rfl, hb⟩)
            have T : CC a9 a1.heap.size 0 1 (.int .u8 R.b) (.int .u8 0) ∧ CC a9 a2.heap.size 0 1 (.int .u8 T.b) (.int .u8 0) := by
                refine ⟨⟨?_, ?_⟩, ⟨?_, ?_⟩⟩ <;> refine kc hb ?_ <;> (go_simp; first | done | rfl)
            have hz := hb.size
            (try simp only [World.size_alloc, World.size_setCell, World.size_drew] at hz)
            have L : a1.heap.size < a9.heap.size ∧ a2.heap.size < a9.heap.size := by omega
            have hB' : Below wr.heap.size wr a9 := by
                refine kb ?_ hb
                go_grown
            clear hx_0 hx_1 hy_0 hy_1 hlx hly hnx0 hnx1 hkx1 hnx2 hkx2 hny0 hny1 hky1 hny2 hky2 hB hsz
            clear hb hz
            obtain ⟨⟨hx_0, hx_1⟩, ⟨hy_0, hy_1⟩⟩ := T
            obtain ⟨hlx, hly⟩ := L
            obtain ⟨hnx0, hnx1, hkx1, hnx2, hkx2⟩ := ap0 hlx
            obtain ⟨hny0, hny1, hky1, hny2, hky2⟩ := ap0 hly
            have hB := hB'; clear hB'
            have hsz := hB.size
            go_wp2
            go_ret
            exact ⟨rfl, HBw.out.trans ((show Below wr.heap.size wr _ from by go_grown).mono HBw.out.size)⟩
          · (try simp only [Bool.false_and, Bool.true_and, Bool.and_false, Bool.and_true] at HS1 HS2)
            have hB := Below.refl wr.heap.size wr
            ((with_reducible refine (HRv.out _ hB).mono ?_); rintro _ a1 ⟨rfl, hb⟩)
            have hz := hb.size
            (try simp only [World.size_alloc, World.size_setCell, World.size_drew] at hz)
            have hB' : Below wr.heap.size wr a1 := by
                refine kb ?_ hb
                go_grown
            clear hb hz
            have hB := hB'; clear hB'
            have hsz := hB.size
            go_wp2_with fail
            ((with_reducible refine (HRw.out _ (by go_grown)).mono ?_); rintro _ a2 ⟨rfl, hb⟩)
            have T : CC a2 a1.heap.size 0 1 (.int .u8 R.b) (.int .u8 0) := by
                refine ⟨?_, ?_⟩ <;> refine kc hb ?_ <;> (go_simp; first | done | rfl)
            have hz := hb.size
            (try simp only [World.size_alloc, World.size_setCell, World.size_drew] at hz)
            have L : a1.heap.size < a2.heap.size := by omega
            have hB' : Below wr.heap.size wr a2 := by
                refine kb ?_ hb
                go_grown
            clear hB hsz
            clear hb hz
            obtain ⟨hx_0, hx_1⟩ := T
            have hlx := L; clear L
            obtain ⟨hnx0, hnx1, hkx1, hnx2, hkx2⟩ := ap0 hlx
            have hB := hB'; clear hB'
            have hsz := hB.size
            go_wp2_with fail
            ((with_reducible refine (HAv.out _ (by go_grown)).mono ?_); rintro _ a3 ⟨rfl, hb⟩)
            have T : CC a3 a1.heap.size 0 1 (.int .u8 R.b) (.int .u8 0) ∧ CC a3 a2.heap.size 0 1 (.int .u8 T.b) (.int .u8 0) := by
                refine ⟨⟨?_, ?_⟩, ⟨?_, ?_⟩⟩ <;> refine kc hb ?_ <;> (go_simp; first | done | rfl)
            have hz := hb.size
            (try simp only [World.size_alloc, World.size_setCell, World.size_drew] at hz)
            have L : a1.heap.size < a3.heap.size ∧ a2.heap.size < a3.heap.size := by omega
            have hB' : Below wr.heap.size wr a3 := by
                refine kb ?_ hb
                go_grown
            clear hx_0 hx_1 hlx hnx0 hnx1 hkx1 hnx2 hkx2 hB hsz
            clear hb hz
            obtain ⟨⟨hx_0, hx_1⟩, ⟨hy_0, hy_1⟩⟩ := T
            obtain ⟨hlx, hly⟩ := L
            obtain ⟨hnx0, hnx1, hkx1, hnx2, hkx2⟩ := ap0 hlx
            obtain ⟨hny0, hny1, hky1, hny2, hky2⟩ := ap0 hly
            have hB := hB'; clear hB'
            have hsz := hB.size
            go_wp2_with fail
            ((with_reducible refine (HAw.out _ hB).mono ?_); rintro _ a4 ⟨rfl, hb⟩)
            have T : CC a4 a1.heap.size 0 1 (.int .u8 R.b) (.int .u8 0) ∧ CC a4 a2.heap.size 0 1 (.int .u8 T.b) (.int .u8 0) := by
                refine ⟨⟨?_, ?_⟩, ⟨?_, ?_⟩⟩ <;> refine kc hb ?_ <;> (go_simp; first | done | rfl)
            have hz := hb.size
            (try simp only [World.size_alloc, World.size_setCell, World.size_drew] at hz)
            have L : a1.heap.size < a4.heap.size ∧ a2.heap.size < a4.heap.size := by omega
            have hB' : Below wr.heap.size wr a4 := by
                refine kb ?_ hb
                go_grown
            clear hx_0 hx_1 hy_0 hy_1 hlx hly hnx0 hnx1 hkx1 hnx2 hkx2 hny0 hny1 hky1 hny2 hky2 hB hsz
            clear hb hz
            obtain ⟨⟨hx_0, hx_1⟩, ⟨hy_0, hy_1⟩⟩ := T
            obtain ⟨hlx, hly⟩ := L
            obtain ⟨hnx0, hnx1, hkx1, hnx2, hkx2⟩ := ap0 hlx
            obtain ⟨hny0, hny1, hky1, hny2, hky2⟩ := ap0 hly
            have hB := hB'; clear hB'
            have hsz := hB.size
            go_wp2_with fail
            ((with_reducible refine (HYv.out _ hB).mono ?_); rintro _ a5 ⟨rfl, hb⟩)
            have T : CC a5 a1.heap.size 0 1 (.int .u8 R.b) (.int .u8 0) ∧ CC a5 a2.heap.size 0 1 (.int .u8 T.b) (.int .u8 0) := by
                refine ⟨⟨?_, ?_⟩, ⟨?_, ?_⟩⟩ <;> refine kc hb ?_ <;> (go_simp; first | done | rfl)
            have hz := hb.size
            (try simp only [World.size_alloc, World.size_setCell, World.size_drew] at hz)
            have L : a1.heap.size < a5.heap.size ∧ a2.heap.size < a5.heap.size := by omega
            have hB' : Below wr.heap.size wr a5 := by
                refine kb ?_ hb
                go_grown
            clear hx_0 hx_1 hy_0 hy_1 hlx hly hnx0 hnx1 hkx1 hnx2 hkx2 hny0 hny1 hky1 hny2 hky2 hB hsz
            clear hb hz
            obtain ⟨⟨hx_0, hx_1⟩, ⟨hy_0, hy_1⟩⟩ := T
            obtain ⟨hlx, hly⟩ := L
            obtain ⟨hnx0, hnx1, hkx1, hnx2, hkx2⟩ := ap0 hlx
            obtain ⟨hny0, hny1, hky1, hny2, hky2⟩ := ap0 hly
            have hB := hB'; clear hB'
            have hsz := hB.size
            go_wp2_with fail
            ((with_reducible refine (HYw.out _ hB).mono ?_); rintro _ a6 ⟨rfl, hb⟩)
            have T : CC a6 a1.heap.size 0 1 (.int .u8 R.b) (.int .u8 0) ∧ CC a6 a2.heap.size 0 1 (.int .u8 T.b) (.int .u8 0) := by
                refine ⟨⟨?_, ?_⟩, ⟨?_, ?_⟩⟩ <;> refine kc hb ?_ <;> (go_simp; first | done | rfl)
            have hz := hb.size
            (try simp only [World.size_alloc, World.size_setCell, World.size_drew] at hz)
            have L : a1.heap.size < a6.heap.size ∧ a2.heap.size < a6.heap.size := by omega
            have hB' : Below wr.heap.size wr a6 := by
                refine kb ?_ hb
                go_grown
            clear hx_0 hx_1 hy_0 hy_1 hlx hly hnx0 hnx1 hkx1 hnx2 hkx2 hny0 hny1 hky1 hny2 hky2 hB hsz
            clear hb hz
            obtain ⟨⟨hx_0, hx_1⟩, ⟨hy_0, hy_1⟩⟩ := T
            obtain ⟨hlx, hly⟩ := L
            obtain ⟨hnx0, hnx1, hkx1, hnx2, hkx2⟩ := ap0 hlx
            obtain ⟨hny0, hny1, hky1, hny2, hky2⟩ := ap0 hly
            have hB := hB'; clear hB'
            have hsz := hB.size
            go_wp2_with fail
            ((with_reducible refine (HS1.out _ hB).mono ?_); rintro _ a7 ⟨rfl, hb⟩)
            have T : CC a7 a1.heap.size 0 1 (.int .u8 R.b) (.int .u8 0) ∧ CC a7 a2.heap.size 0 1 (.int .u8 T.b) (.int .u8 0) := by
                refine ⟨⟨?_, ?_⟩, ⟨?_, ?_⟩⟩ <;> refine kc hb ?_ <;> (go_simp; first | done | rfl)
            have hz := hb.size
            (try simp only [World.size_alloc, World.size_setCell, World.size_drew] at hz)
            have L : a1.heap.size < a7.heap.size ∧ a2.heap.size < a7.heap.size := by omega
            have hB' : Below wr.heap.size wr a7 := by
                refine kb ?_ hb
                go_grown
            clear hx_0 hx_1 hy_0 hy_1 hlx hly hnx0 hnx1 hkx1 hnx2 hkx2 hny0 hny1 hky1 hny2 hky2 hB hsz
            clear hb hz
            obtain ⟨⟨hx_0, hx_1⟩, ⟨hy_0, hy_1⟩⟩ := T
            obtain ⟨hlx, hly⟩ := L
            obtain ⟨hnx0, hnx1, hkx1, hnx2, hkx2⟩ := ap0 hlx
            obtain ⟨hny0, hny1, hky1, hny2, hky2⟩ := ap0 hly
            have hB := hB'; clear hB'
            have hsz := hB.size
            go_wp2_with fail
            ((with_reducible refine (HS2.out _ hB).mono ?_); rintro _ a8 ⟨rfl, hb⟩)
            have T : CC a8 a1.heap.size 0 1 (.int .u8 R.b) (.int .u8 0) ∧ CC a8 a2.heap.size 0 1 (.int .u8 T.b) (.int .u8 0) := by
                refine ⟨⟨?_, ?_⟩, ⟨?_, ?_⟩⟩ <;> refine kc hb ?_ <;> (go_simp; first | done | rfl)
            have hz := hb.size
            (try simp only [World.size_alloc, World.size_setCell, World.size_drew] at hz)
            have L : a1.heap.size < a8.heap.size ∧ a2.heap.size < a8.heap.size := by omega
            have hB' : Below wr.heap.size wr a8 := by
                refine kb ?_ hb
                go_grown
            clear hx_0 hx_1 hy_0 hy_1 hlx hly hnx0 hnx1 hkx1 hnx2 hkx2 hny0 hny1 hky1 hny2 hky2 hB hsz
            clear hb hz
            obtain ⟨⟨hx_0, hx_1⟩, ⟨hy_0, hy_1⟩⟩ := T
            obtain ⟨hlx, hly⟩ := L
            obtain ⟨hnx0, hnx1, hkx1, hnx2, hkx2⟩ := ap0 hlx
            obtain ⟨hny0, hny1, hky1, hny2, hky2⟩ := ap0 hly
            have hB := hB'; clear hB'
            have hsz := hB.size
            go_wp2_with fail
            ((with_reducible refine (awake12_c _).mono ?_); rintro _ a9 ⟨rfl, hb⟩)
            have T : CC a9 a1.heap.size 0 1 (.int .u8 R.b) (.int .u8 0) ∧ CC a9 a2.heap.size 0 1 (.int .u8 T.b) (.int .u8 0) := by
                refine ⟨⟨?_, ?_⟩, ⟨?_, ?_⟩⟩ <;> refine kc hb ?_ <;> (go_simp; first | done | rfl)
            have hz := hb.size
            (try simp only [World.size_alloc, World.size_setCell, World.size_drew] at hz)
            have L : a1.heap.size < a9.heap.size ∧ a2.heap.size < a9.heap.size := by omega
            have hB' : Below wr.heap.size wr a9 := by
                refine kb ?_ hb
                go_grown
            clear hx_0 hx_1 hy_0 hy_1 hlx hly hnx0 hnx1 hkx1 hnx2 hkx2 hny0 hny1 hky1 hny2 hky2 hB hsz
            clear hb hz
            obtain ⟨⟨hx_0, hx_1⟩, ⟨hy_0, hy_1⟩⟩ := T
            obtain ⟨hlx, hly⟩ := L
            obtain ⟨hnx0, hnx1, hkx1, hnx2, hkx2⟩ := ap0 hlx
            obtain ⟨hny0, hny1, hky1, hny2, hky2⟩ := ap0 hly
            have hB := hB'; clear hB'
            have hsz := hB.size
            go_wp2
            go_ret
            exact ⟨rfl, HBw.out.trans ((show Below wr.heap.size wr _ from by go_grown).mono HBw.out.size)⟩
end Go.Proofs.Ytkabpnchfhkhgaa
