/- Layer 7, the program's -/
import Derived.Test.YtjcmblbnbpikfaaGreatDoorSpanp
set_option linter.unusedSimpArgs false
set_option linter.unusedVariables false
set_option maxRecDepth 100000
namespace Go.Proofs.YtjcmblbnbpikfaaGreatDoor
open Lib (hid)
open List (setIfInBounds_toArray set_cons_zero set_cons_succ append_eq cons_append nil_append toList_toArray take_succ_cons take_zero drop_succ_cons drop_zero)
open Go.RowKit Go.PlainAid

set_option maxHeartbeats 8000000 in
theorem span_P1 (ak an al ac : Int) (ax : List UInt8) (rs : List Tk) (h0 : ¬ ak = 2) (sink : Bool) (wk wn wl wc : Int) (wx : List UInt8) (ssp : List Mk) (sv : Value) (sdn stn : Int) (sdb stb : Bool) (hsp : ssp.length ≤ 64) (rb S0 : Nat) (w : World) (hR : Rd rb S0 w ⟨⟨ak, ax, an, al, ac⟩ :: rs, ssp, sv, sdn, sdb, stn, stb⟩) :
  Calls Tryz.prog 55 #[.pointer (some ⟨rb, 0, none⟩), tkV ⟨wk, wx, wn, wl, wc⟩, .bool sink] w (SpanEnd rb S0 w ⟨⟨ak, ax, an, al, ac⟩ :: rs, ssp, sv, sdn, sdb, stn, stb⟩ ⟨wk, wx, wn, wl, wc⟩ sink (spanM (⟨ak, ax, an, al, ac⟩ :: rs))) := by
 have hlt := hR.lt
 have hsz0 := hR.sz
 have hkr : rb < w.heap.size := by omega
 have hrw : ¬ rb = w.heap.size := by omega
 have HLOW := hid (show ∀ g, sv.ownBlock = some g → g < w.heap.size from fun g h => (hR.row.2.lt g h).2)
 obtain ⟨O, hO⟩ : ∃ O, spanM (⟨ak, ax, an, al, ac⟩ :: rs) = O := ⟨_, rfl⟩
 rw [hO]
 have HO := hid hO
 clear hO
 have HF := hid (show O.e = 11 ∧ O.li = al ∧ O.co = ac from by rw [← HO.out]; simp [spanM, maskM, endM, errO, h0])
 have ht0 : (ak == 2) = false := by exact beq_eq_false_iff_ne.2 h0
 have HT0 := hid (fun W hR => (takei_c 2 rb S0 W ⟨⟨ak, ax, an, al, ac⟩ :: rs, ssp, sv, sdn, sdb, stn, stb⟩ ⟨ak, ax, an, al, ac⟩ (rs) rfl hR).mono (fun e w' h => h.2 ht0))
 (try dsimp only [tkV] at HT0)
 skip
 clear ht0 HO
 unfold tkV
 (try dsimp only)
 generalize txB ax = aT at *
 generalize txB wx = wT at *
 go_enter Tryz.func55, Tryz.ntmps55
 go_wp2_with fail
 ((with_reducible refine (HT0.out _ (by (with_reducible repeat (first | assumption | refine Rd.al ?_ _ | (refine Rd.setl ?_ HLOW hkr ?_ _; rotate_left; (dsimp only; omega)))))).mono ?_); rintro _ u1 ⟨rfl, hR1, hb⟩)
 have T : CF u1 (w.heap.size + 1) 0 (.int .i64 0) ∧ CF u1 (w.heap.size + 1) 1 (.int .i64 0) ∧ CC u1 w.heap.size 3 4 (.int .i64 wl) (.int .i64 wc) := by
   refine ⟨⟨?_, ?_⟩, ⟨?_, ?_⟩, ⟨?_, ?_⟩⟩ <;> first | (refine kg hb (by omega) ?_; go_simp; first | done | rfl) | (refine kgf hb (by omega) (by first | go_size | omega | (simp only [szA]; omega)) ?_; go_simp; first | done | rfl)
 have hz := hb.size
 (try simp only [szA] at hz)
 have L : w.heap.size + 1 < u1.heap.size ∧ w.heap.size < u1.heap.size := by omega
 have hB' : w.grownBy u1 (some rb) := by
   refine World.grownBy.trans ?_ hb
   (with_reducible repeat (first | assumption | exact World.grownBy.refl _ _ | refine grown_al ?_ _ | (refine grown_new ?_ ?_; rotate_left; (dsimp only; omega))))
 clear hb hz
 obtain ⟨⟨hz_0, fz_0⟩, ⟨hz_1, fz_1⟩, ⟨hx_3, hx_4⟩⟩ := T
 obtain ⟨hlz, hlx⟩ := L
 obtain ⟨hnz0, hnz1, hkz1, hnz2, hkz2⟩ := ap1f hlz
 have hnx2 : ¬ (w.heap.size = u1.heap.size + 1 + 1) := by omega
 have hkx2 : w.heap.size < u1.heap.size + 1 + 1 := by omega
 have hB := hB'; clear hB'
 have hsz := hB.size
 clear hR
 (try dsimp only at hR1)
 have hw1 : w.heap.size + 2 ≤ u1.heap.size := by omega
 have hv00 : ¬ (w.heap.size = u1.heap.size) := by omega
 have hv01 : ¬ (w.heap.size = u1.heap.size + 1) := by omega
 have hv02 : ¬ (w.heap.size = u1.heap.size + 1 + 1) := by omega
 have hv10 : ¬ (w.heap.size + 1 = u1.heap.size) := by omega
 have hy00 : ¬ (u1.heap.size = w.heap.size) := by omega
 have hy01 : ¬ (u1.heap.size + 1 = w.heap.size) := by omega
 have hy02 : ¬ (u1.heap.size + 1 + 1 = w.heap.size) := by omega
 have hy10 : ¬ (u1.heap.size = w.heap.size + 1) := by omega
 go_wp2_with fail
 ((with_reducible refine (wrong_c rb S0 _ ⟨⟨ak, ax, an, al, ac⟩ :: rs, ssp, sv, sdn, sdb, stn, stb⟩ ⟨ak, ax, an, al, ac⟩ (rs) rfl (by (with_reducible repeat (first | assumption | refine Rd.al ?_ _ | (refine Rd.setl ?_ HLOW hkr ?_ _; rotate_left; (dsimp only; omega)))))).mono ?_); rintro _ u2 ⟨rfl, hb⟩)
 have T : CF u2 (w.heap.size + 1) 0 (.int .i64 0) ∧ CF u2 (w.heap.size + 1) 1 (.int .i64 0) ∧ CC u2 w.heap.size 3 4 (.int .i64 wl) (.int .i64 wc) := by
   refine ⟨⟨?_, ?_⟩, ⟨?_, ?_⟩, ⟨?_, ?_⟩⟩ <;> first | (refine kg hb (by omega) ?_; go_simp; first | done | rfl) | (refine kgf hb (by omega) (by first | go_size | omega | (simp only [szA]; omega)) ?_; go_simp; first | done | rfl)
 have hz := hb.size
 (try simp only [szA] at hz)
 have L : w.heap.size + 1 < u2.heap.size ∧ w.heap.size < u2.heap.size := by omega
 have hB' : w.grownBy u2 (some rb) := by
   refine World.grownBy.trans ?_ hb
   (with_reducible repeat (first | assumption | exact World.grownBy.refl _ _ | refine grown_al ?_ _ | (refine grown_new ?_ ?_; rotate_left; (dsimp only; omega))))
 clear hz_0 fz_0 hz_1 fz_1 hx_3 hx_4 hlz hlx hnz0 hnz1 hkz1 hnz2 hkz2 hnx2 hkx2 hB hsz
 clear hb hz
 obtain ⟨⟨hz_0, fz_0⟩, ⟨hz_1, fz_1⟩, ⟨hx_3, hx_4⟩⟩ := T
 obtain ⟨hlz, hlx⟩ := L
 obtain ⟨hnz0, hnz1, hkz1, hnz2, hkz2⟩ := ap1f hlz
 have hnx2 : ¬ (w.heap.size = u2.heap.size + 1 + 1) := by omega
 have hkx2 : w.heap.size < u2.heap.size + 1 + 1 := by omega
 have hB := hB'; clear hB'
 have hsz := hB.size
 go_wp2
 refine bodyPost_ret (v := .tuple #[.agg #[.int .i64 al, .int .i64 ac], .int .i64 11]) (by simp [results, Tryz.results55, go_sem, hz_0, hz_1] <;> first | done | rfl) rfl (spanEnd_err HF.out.1 HF.out.2.1 HF.out.2.2 (by decide) (Tur.of_grown (by (with_reducible repeat (first | assumption | exact World.grownBy.refl _ _ | refine grown_al ?_ _ | (refine grown_new ?_ ?_; rotate_left; (dsimp only; omega))))) hlt hsz0))
set_option maxHeartbeats 8000000 in
theorem span_P2 (ak an al ac : Int) (ax : List UInt8) (bk bn bl bc : Int) (bx : List UInt8) (ck cn cl cc : Int) (cx : List UInt8) (rs : List Tk) (h0 : ak = 2) (h1 : bk = 3) (h2 : ¬ ck = 2) (sink : Bool) (wk wn wl wc : Int) (wx : List UInt8) (ssp : List Mk) (sv : Value) (sdn stn : Int) (sdb stb : Bool) (hsp : ssp.length ≤ 64) (rb S0 : Nat) (w : World) (hR : Rd rb S0 w ⟨⟨ak, ax, an, al, ac⟩ :: ⟨bk, bx, bn, bl, bc⟩ :: ⟨ck, cx, cn, cl, cc⟩ :: rs, ssp, sv, sdn, sdb, stn, stb⟩) :
  Calls Tryz.prog 55 #[.pointer (some ⟨rb, 0, none⟩), tkV ⟨wk, wx, wn, wl, wc⟩, .bool sink] w (SpanEnd rb S0 w ⟨⟨ak, ax, an, al, ac⟩ :: ⟨bk, bx, bn, bl, bc⟩ :: ⟨ck, cx, cn, cl, cc⟩ :: rs, ssp, sv, sdn, sdb, stn, stb⟩ ⟨wk, wx, wn, wl, wc⟩ sink (spanM (⟨ak, ax, an, al, ac⟩ :: ⟨bk, bx, bn, bl, bc⟩ :: ⟨ck, cx, cn, cl, cc⟩ :: rs))) := by
 have hlt := hR.lt
 have hsz0 := hR.sz
 have hkr : rb < w.heap.size := by omega
 have hrw : ¬ rb = w.heap.size := by omega
 have HLOW := hid (show ∀ g, sv.ownBlock = some g → g < w.heap.size from fun g h => (hR.row.2.lt g h).2)
 obtain ⟨O, hO⟩ : ∃ O, spanM (⟨ak, ax, an, al, ac⟩ :: ⟨bk, bx, bn, bl, bc⟩ :: ⟨ck, cx, cn, cl, cc⟩ :: rs) = O := ⟨_, rfl⟩
 rw [hO]
 have HO := hid hO
 clear hO
 have HF := hid (show O.e = 11 ∧ O.li = cl ∧ O.co = cc from by rw [← HO.out]; simp [spanM, maskM, endM, errO, h0, h1, h2])
 have ht0 : (ak == 2) = true := by rw [h0]; rfl
 have HT0 := hid (fun W hR => (takei_c 2 rb S0 W ⟨⟨ak, ax, an, al, ac⟩ :: ⟨bk, bx, bn, bl, bc⟩ :: ⟨ck, cx, cn, cl, cc⟩ :: rs, ssp, sv, sdn, sdb, stn, stb⟩ ⟨ak, ax, an, al, ac⟩ (⟨bk, bx, bn, bl, bc⟩ :: ⟨ck, cx, cn, cl, cc⟩ :: rs) rfl hR).mono (fun e w' h => h.1 ht0))
 (try dsimp only [tkV] at HT0)
 have ht1 : (bk == 3) = true := by rw [h1]; rfl
 have HT1 := hid (fun W hR => (takei_c 3 rb S0 W ⟨⟨bk, bx, bn, bl, bc⟩ :: ⟨ck, cx, cn, cl, cc⟩ :: rs, ssp, sv, sdn, sdb, stn, stb⟩ ⟨bk, bx, bn, bl, bc⟩ (⟨ck, cx, cn, cl, cc⟩ :: rs) rfl hR).mono (fun e w' h => h.1 ht1))
 (try dsimp only [tkV] at HT1)
 have ht2 : (ck == 2) = false := by exact beq_eq_false_iff_ne.2 h2
 have HT2 := hid (fun W hR => (takei_c 2 rb S0 W ⟨⟨ck, cx, cn, cl, cc⟩ :: rs, ssp, sv, sdn, sdb, stn, stb⟩ ⟨ck, cx, cn, cl, cc⟩ (rs) rfl hR).mono (fun e w' h => h.2 ht2))
 (try dsimp only [tkV] at HT2)
 skip
 clear ht0 ht1 ht2 HO
 unfold tkV
 (try dsimp only)
 generalize txB ax = aT at *
 generalize txB bx = bT at *
 generalize txB cx = cT at *
 generalize txB wx = wT at *
 go_enter Tryz.func55, Tryz.ntmps55
 go_wp2_with fail
 ((with_reducible refine (HT0.out _ (by (with_reducible repeat (first | assumption | refine Rd.al ?_ _ | (refine Rd.setl ?_ HLOW hkr ?_ _; rotate_left; (dsimp only; omega)))))).mono ?_); rintro _ u1 ⟨rfl, hR1, hb⟩)
 have T : CF u1 (w.heap.size + 1) 0 (.int .i64 0) ∧ CF u1 (w.heap.size + 1) 1 (.int .i64 0) ∧ CC u1 w.heap.size 3 4 (.int .i64 wl) (.int .i64 wc) := by
   refine ⟨⟨?_, ?_⟩, ⟨?_, ?_⟩, ⟨?_, ?_⟩⟩ <;> first | (refine kg hb (by omega) ?_; go_simp; first | done | rfl) | (refine kgf hb (by omega) (by first | go_size | omega | (simp only [szA]; omega)) ?_; go_simp; first | done | rfl)
 have hz := hb.size
 (try simp only [szA] at hz)
 have L : w.heap.size + 1 < u1.heap.size ∧ w.heap.size < u1.heap.size := by omega
 have hB' : w.grownBy u1 (some rb) := by
   refine World.grownBy.trans ?_ hb
   (with_reducible repeat (first | assumption | exact World.grownBy.refl _ _ | refine grown_al ?_ _ | (refine grown_new ?_ ?_; rotate_left; (dsimp only; omega))))
 clear hb hz
 obtain ⟨⟨hz_0, fz_0⟩, ⟨hz_1, fz_1⟩, ⟨hx_3, hx_4⟩⟩ := T
 obtain ⟨hlz, hlx⟩ := L
 obtain ⟨hnz0, hnz1, hkz1, hnz2, hkz2⟩ := ap1f hlz
 have hnx2 : ¬ (w.heap.size = u1.heap.size + 1 + 1) := by omega
 have hkx2 : w.heap.size < u1.heap.size + 1 + 1 := by omega
 have hB := hB'; clear hB'
 have hsz := hB.size
 clear hR
 (try dsimp only at hR1)
 have hw1 : w.heap.size + 2 ≤ u1.heap.size := by omega
 have hv00 : ¬ (w.heap.size = u1.heap.size) := by omega
 have hv01 : ¬ (w.heap.size = u1.heap.size + 1) := by omega
 have hv02 : ¬ (w.heap.size = u1.heap.size + 1 + 1) := by omega
 have hv10 : ¬ (w.heap.size + 1 = u1.heap.size) := by omega
 have hy00 : ¬ (u1.heap.size = w.heap.size) := by omega
 have hy01 : ¬ (u1.heap.size + 1 = w.heap.size) := by omega
 have hy02 : ¬ (u1.heap.size + 1 + 1 = w.heap.size) := by omega
 have hy10 : ¬ (u1.heap.size = w.heap.size + 1) := by omega
 go_wp2_with fail
 ((with_reducible refine (HT1.out _ (by (with_reducible repeat (first | assumption | refine Rd.al ?_ _ | (refine Rd.setl ?_ HLOW hkr ?_ _; rotate_left; (dsimp only; omega)))))).mono ?_); rintro _ u2 ⟨rfl, hR2, hb⟩)
 have T : CF u2 (w.heap.size + 1) 0 (.int .i64 0) ∧ CF u2 (w.heap.size + 1) 1 (.int .i64 0) ∧ CC u2 w.heap.size 3 4 (.int .i64 wl) (.int .i64 wc) ∧ CC u2 u1.heap.size 2 3 (.int .i64 an) (.int .i64 al) ∧ u2.cell? ⟨u1.heap.size, 4, none⟩ = some (.int .i64 ac) ∧ CF u2 (u1.heap.size + 1) 0 (.int .i64 ak) ∧ CF u2 (u1.heap.size + 1) 1 (.string aT) ∧ CF u2 (u1.heap.size + 1) 2 (.int .i64 an) ∧ CF u2 (u1.heap.size + 1) 3 (.int .i64 al) ∧ CF u2 (u1.heap.size + 1) 4 (.int .i64 ac) ∧ u2.cell? ⟨u1.heap.size + 2, 2, none⟩ = some (.int .i64 255) := by
   refine ⟨⟨?_, ?_⟩, ⟨?_, ?_⟩, ⟨?_, ?_⟩, ⟨?_, ?_⟩, ?_, ⟨?_, ?_⟩, ⟨?_, ?_⟩, ⟨?_, ?_⟩, ⟨?_, ?_⟩, ⟨?_, ?_⟩, ?_⟩ <;> first | (refine kg hb (by omega) ?_; go_simp; first | done | rfl) | (refine kgf hb (by omega) (by first | go_size | omega | (simp only [szA]; omega)) ?_; go_simp; first | done | rfl)
 have hz := hb.size
 (try simp only [szA] at hz)
 have L : w.heap.size + 1 < u2.heap.size ∧ w.heap.size < u2.heap.size ∧ u1.heap.size < u2.heap.size ∧ u1.heap.size + 1 < u2.heap.size ∧ u1.heap.size + 2 < u2.heap.size := by omega
 have hB' : w.grownBy u2 (some rb) := by
   refine World.grownBy.trans ?_ hb
   (with_reducible repeat (first | assumption | exact World.grownBy.refl _ _ | refine grown_al ?_ _ | (refine grown_new ?_ ?_; rotate_left; (dsimp only; omega))))
 clear hz_0 fz_0 hz_1 fz_1 hx_3 hx_4 hlz hlx hnz0 hnz1 hkz1 hnz2 hkz2 hnx2 hkx2 hB hsz
 clear hb hz
 obtain ⟨⟨hz_0, fz_0⟩, ⟨hz_1, fz_1⟩, ⟨hx_3, hx_4⟩, ⟨hf_2, hf_3⟩, hf_4, ⟨hq_0, fq_0⟩, ⟨hq_1, fq_1⟩, ⟨hq_2, fq_2⟩, ⟨hq_3, fq_3⟩, ⟨hq_4, fq_4⟩, hm_2⟩ := T
 obtain ⟨hlz, hlx, hlf, hlq, hlm⟩ := L
 obtain ⟨hnz0, hnz1, hkz1, hnz2, hkz2⟩ := ap1f hlz
 have hnx2 : ¬ (w.heap.size = u2.heap.size + 1 + 1) := by omega
 have hkx2 : w.heap.size < u2.heap.size + 1 + 1 := by omega
 obtain ⟨hnf0, hnf1, hkf1, hnf2, hkf2⟩ := ap0 hlf
 obtain ⟨hnq0, hkq1⟩ := ap1 hlq
 obtain ⟨hnm0, hnm1, hkm1, hnm2, hkm2⟩ := ap0 hlm
 have hB := hB'; clear hB'
 have hsz := hB.size
 clear hR1
 (try dsimp only at hR2)
 go_wp2_with fail
 ((with_reducible refine (HT2.out _ (by (with_reducible repeat (first | assumption | refine Rd.al ?_ _ | (refine Rd.setl ?_ HLOW hkr ?_ _; rotate_left; (dsimp only; omega)))))).mono ?_); rintro _ u3 ⟨rfl, hR3, hb⟩)
 have T : CF u3 (w.heap.size + 1) 0 (.int .i64 0) ∧ CF u3 (w.heap.size + 1) 1 (.int .i64 0) ∧ CC u3 w.heap.size 3 4 (.int .i64 wl) (.int .i64 wc) ∧ CC u3 u1.heap.size 2 3 (.int .i64 an) (.int .i64 al) ∧ u3.cell? ⟨u1.heap.size, 4, none⟩ = some (.int .i64 ac) ∧ CF u3 (u1.heap.size + 1) 0 (.int .i64 ak) ∧ CF u3 (u1.heap.size + 1) 1 (.string aT) ∧ CF u3 (u1.heap.size + 1) 2 (.int .i64 an) ∧ CF u3 (u1.heap.size + 1) 3 (.int .i64 al) ∧ CF u3 (u1.heap.size + 1) 4 (.int .i64 ac) ∧ u3.cell? ⟨u1.heap.size + 2, 2, none⟩ = some (.int .i64 255) := by
   refine ⟨⟨?_, ?_⟩, ⟨?_, ?_⟩, ⟨?_, ?_⟩, ⟨?_, ?_⟩, ?_, ⟨?_, ?_⟩, ⟨?_, ?_⟩, ⟨?_, ?_⟩, ⟨?_, ?_⟩, ⟨?_, ?_⟩, ?_⟩ <;> first | (refine kg hb (by omega) ?_; go_simp; first | done | rfl) | (refine kgf hb (by omega) (by first | go_size | omega | (simp only [szA]; omega)) ?_; go_simp; first | done | rfl)
 have hz := hb.size
 (try simp only [szA] at hz)
 have L : w.heap.size + 1 < u3.heap.size ∧ w.heap.size < u3.heap.size ∧ u1.heap.size < u3.heap.size ∧ u1.heap.size + 1 < u3.heap.size ∧ u1.heap.size + 2 < u3.heap.size := by omega
 have hB' : w.grownBy u3 (some rb) := by
   refine World.grownBy.trans ?_ hb
   (with_reducible repeat (first | assumption | exact World.grownBy.refl _ _ | refine grown_al ?_ _ | (refine grown_new ?_ ?_; rotate_left; (dsimp only; omega))))
 clear hz_0 fz_0 hz_1 fz_1 hx_3 hx_4 hf_2 hf_3 hf_4 hq_0 fq_0 hq_1 fq_1 hq_2 fq_2 hq_3 fq_3 hq_4 fq_4 hm_2 hlz hlx hlf hlq hlm hnz0 hnz1 hkz1 hnz2 hkz2 hnx2 hkx2 hnf0 hnf1 hkf1 hnf2 hkf2 hnq0 hkq1 hnm0 hnm1 hkm1 hnm2 hkm2 hB hsz
 clear hb hz
 obtain ⟨⟨hz_0, fz_0⟩, ⟨hz_1, fz_1⟩, ⟨hx_3, hx_4⟩, ⟨hf_2, hf_3⟩, hf_4, ⟨hq_0, fq_0⟩, ⟨hq_1, fq_1⟩, ⟨hq_2, fq_2⟩, ⟨hq_3, fq_3⟩, ⟨hq_4, fq_4⟩, hm_2⟩ := T
 obtain ⟨hlz, hlx, hlf, hlq, hlm⟩ := L
 obtain ⟨hnz0, hnz1, hkz1, hnz2, hkz2⟩ := ap1f hlz
 have hnx2 : ¬ (w.heap.size = u3.heap.size + 1 + 1) := by omega
 have hkx2 : w.heap.size < u3.heap.size + 1 + 1 := by omega
 obtain ⟨hnf0, hnf1, hkf1, hnf2, hkf2⟩ := ap0 hlf
 obtain ⟨hnq0, hkq1⟩ := ap1 hlq
 obtain ⟨hnm0, hnm1, hkm1, hnm2, hkm2⟩ := ap0 hlm
 have hB := hB'; clear hB'
 have hsz := hB.size
 clear hR2
 (try dsimp only at hR3)
 go_wp2_with fail
 ((with_reducible refine (wrong_c rb S0 _ ⟨⟨ck, cx, cn, cl, cc⟩ :: rs, ssp, sv, sdn, sdb, stn, stb⟩ ⟨ck, cx, cn, cl, cc⟩ (rs) rfl (by (with_reducible repeat (first | assumption | refine Rd.al ?_ _ | (refine Rd.setl ?_ HLOW hkr ?_ _; rotate_left; (dsimp only; omega)))))).mono ?_); rintro _ u4 ⟨rfl, hb⟩)
 have T : CF u4 (w.heap.size + 1) 0 (.int .i64 0) ∧ CF u4 (w.heap.size + 1) 1 (.int .i64 0) ∧ CC u4 w.heap.size 3 4 (.int .i64 wl) (.int .i64 wc) ∧ CC u4 u1.heap.size 2 3 (.int .i64 an) (.int .i64 al) ∧ u4.cell? ⟨u1.heap.size, 4, none⟩ = some (.int .i64 ac) ∧ u4.cell? ⟨u1.heap.size + 1, 2, none⟩ = some (.int .i64 0) ∧ u4.cell? ⟨u1.heap.size + 2, 2, none⟩ = some (.int .i64 255) := by
   refine ⟨⟨?_, ?_⟩, ⟨?_, ?_⟩, ⟨?_, ?_⟩, ⟨?_, ?_⟩, ?_, ?_, ?_⟩ <;> first | (refine kg hb (by omega) ?_; go_simp; first | done | rfl) | (refine kgf hb (by omega) (by first | go_size | omega | (simp only [szA]; omega)) ?_; go_simp; first | done | rfl)
 have hz := hb.size
 (try simp only [szA] at hz)
 have L : w.heap.size + 1 < u4.heap.size ∧ w.heap.size < u4.heap.size ∧ u1.heap.size < u4.heap.size ∧ u1.heap.size + 1 < u4.heap.size ∧ u1.heap.size + 2 < u4.heap.size := by omega
 have hB' : w.grownBy u4 (some rb) := by
   refine World.grownBy.trans ?_ hb
   (with_reducible repeat (first | assumption | exact World.grownBy.refl _ _ | refine grown_al ?_ _ | (refine grown_new ?_ ?_; rotate_left; (dsimp only; omega))))
 clear hz_0 fz_0 hz_1 fz_1 hx_3 hx_4 hf_2 hf_3 hf_4 hq_0 fq_0 hq_1 fq_1 hq_2 fq_2 hq_3 fq_3 hq_4 fq_4 hm_2 hlz hlx hlf hlq hlm hnz0 hnz1 hkz1 hnz2 hkz2 hnx2 hkx2 hnf0 hnf1 hkf1 hnf2 hkf2 hnq0 hkq1 hnm0 hnm1 hkm1 hnm2 hkm2 hB hsz
 clear hb hz
 obtain ⟨⟨hz_0, fz_0⟩, ⟨hz_1, fz_1⟩, ⟨hx_3, hx_4⟩, ⟨hf_2, hf_3⟩, hf_4, hq_2, hm_2⟩ := T
 obtain ⟨hlz, hlx, hlf, hlq, hlm⟩ := L
 obtain ⟨hnz0, hnz1, hkz1, hnz2, hkz2⟩ := ap1f hlz
 have hnx2 : ¬ (w.heap.size = u4.heap.size + 1 + 1) := by omega
 have hkx2 : w.heap.size < u4.heap.size + 1 + 1 := by omega
 obtain ⟨hnf0, hnf1, hkf1, hnf2, hkf2⟩ := ap0 hlf
 obtain ⟨hnq0, hkq1⟩ := ap1 hlq
 obtain ⟨hnm0, hnm1, hkm1, hnm2, hkm2⟩ := ap0 hlm
 have hB := hB'; clear hB'
 have hsz := hB.size
 go_wp2
 refine bodyPost_ret (v := .tuple #[.agg #[.int .i64 cl, .int .i64 cc], .int .i64 11]) (by simp [results, Tryz.results55, go_sem, hz_0, hz_1] <;> first | done | rfl) rfl (spanEnd_err HF.out.1 HF.out.2.1 HF.out.2.2 (by decide) (Tur.of_grown (by (with_reducible repeat (first | assumption | exact World.grownBy.refl _ _ | refine grown_al ?_ _ | (refine grown_new ?_ ?_; rotate_left; (dsimp only; omega))))) hlt hsz0))
set_option maxHeartbeats 8000000 in
theorem span_E00 (ak an al ac : Int) (ax : List UInt8) (bk bn bl bc : Int) (bx : List UInt8) (rs : List Tk) (h0 : ak = 2) (h1 : ¬ bk = 3) (h2 : ¬ bx = bitsL) (h3 : ¬ bk = 4) (sink : Bool) (wk wn wl wc : Int) (wx : List UInt8) (ssp : List Mk) (sv : Value) (sdn stn : Int) (sdb stb : Bool) (hsp : ssp.length ≤ 64) (rb S0 : Nat) (w : World) (hR : Rd rb S0 w ⟨⟨ak, ax, an, al, ac⟩ :: ⟨bk, bx, bn, bl, bc⟩ :: rs, ssp, sv, sdn, sdb, stn, stb⟩) :
  Calls Tryz.prog 55 #[.pointer (some ⟨rb, 0, none⟩), tkV ⟨wk, wx, wn, wl, wc⟩, .bool sink] w (SpanEnd rb S0 w ⟨⟨ak, ax, an, al, ac⟩ :: ⟨bk, bx, bn, bl, bc⟩ :: rs, ssp, sv, sdn, sdb, stn, stb⟩ ⟨wk, wx, wn, wl, wc⟩ sink (spanM (⟨ak, ax, an, al, ac⟩ :: ⟨bk, bx, bn, bl, bc⟩ :: rs))) := by
 have hlt := hR.lt
 have hsz0 := hR.sz
 have hkr : rb < w.heap.size := by omega
 have hrw : ¬ rb = w.heap.size := by omega
 have HLOW := hid (show ∀ g, sv.ownBlock = some g → g < w.heap.size from fun g h => (hR.row.2.lt g h).2)
 obtain ⟨O, hO⟩ : ∃ O, spanM (⟨ak, ax, an, al, ac⟩ :: ⟨bk, bx, bn, bl, bc⟩ :: rs) = O := ⟨_, rfl⟩
 rw [hO]
 have HO := hid hO
 clear hO
 have HF := hid (show O.e = 11 ∧ O.li = bl ∧ O.co = bc from by rw [← HO.out]; simp [spanM, maskM, endM, errO, h0, h1, h2, h3])
 have ht0 : (ak == 2) = true := by rw [h0]; rfl
 have HT0 := hid (fun W hR => (takei_c 2 rb S0 W ⟨⟨ak, ax, an, al, ac⟩ :: ⟨bk, bx, bn, bl, bc⟩ :: rs, ssp, sv, sdn, sdb, stn, stb⟩ ⟨ak, ax, an, al, ac⟩ (⟨bk, bx, bn, bl, bc⟩ :: rs) rfl hR).mono (fun e w' h => h.1 ht0))
 (try dsimp only [tkV] at HT0)
 have ht1 : (bk == 3) = false := by exact beq_eq_false_iff_ne.2 h1
 have HT1 := hid (fun W hR => (takei_c 3 rb S0 W ⟨⟨bk, bx, bn, bl, bc⟩ :: rs, ssp, sv, sdn, sdb, stn, stb⟩ ⟨bk, bx, bn, bl, bc⟩ (rs) rfl hR).mono (fun e w' h => h.2 ht1))
 (try dsimp only [tkV] at HT1)
 have ht2 : (bx == [98, 105, 116, 115]) = false := by exact beq_eq_false_iff_ne.2 h2
 have HT2 := hid (fun W hR => (takes_c [98, 105, 116, 115] rb S0 W ⟨⟨bk, bx, bn, bl, bc⟩ :: rs, ssp, sv, sdn, sdb, stn, stb⟩ ⟨bk, bx, bn, bl, bc⟩ (rs) rfl hR).mono (fun e w' h => h.2 ht2))
 (try dsimp only [tkV] at HT2)
 have ht3 : (bk == 4) = false := by exact beq_eq_false_iff_ne.2 h3
 have HT3 := hid (fun W hR => (takei_c 4 rb S0 W ⟨⟨bk, bx, bn, bl, bc⟩ :: rs, ssp, sv, sdn, sdb, stn, stb⟩ ⟨bk, bx, bn, bl, bc⟩ (rs) rfl hR).mono (fun e w' h => h.2 ht3))
 (try dsimp only [tkV] at HT3)
 skip
 clear ht0 ht1 ht2 ht3 HO
 unfold tkV
 (try dsimp only)
 generalize txB ax = aT at *
 generalize txB bx = bT at *
 generalize txB wx = wT at *
 go_enter Tryz.func55, Tryz.ntmps55
 go_wp2_with fail
 ((with_reducible refine (HT0.out _ (by (with_reducible repeat (first | assumption | refine Rd.al ?_ _ | (refine Rd.setl ?_ HLOW hkr ?_ _; rotate_left; (dsimp only; omega)))))).mono ?_); rintro _ u1 ⟨rfl, hR1, hb⟩)
 have T : CF u1 (w.heap.size + 1) 0 (.int .i64 0) ∧ CF u1 (w.heap.size + 1) 1 (.int .i64 0) ∧ CC u1 w.heap.size 3 4 (.int .i64 wl) (.int .i64 wc) := by
   refine ⟨⟨?_, ?_⟩, ⟨?_, ?_⟩, ⟨?_, ?_⟩⟩ <;> first | (refine kg hb (by omega) ?_; go_simp; first | done | rfl) | (refine kgf hb (by omega) (by first | go_size | omega | (simp only [szA]; omega)) ?_; go_simp; first | done | rfl)
 have hz := hb.size
 (try simp only [szA] at hz)
 have L : w.heap.size + 1 < u1.heap.size ∧ w.heap.size < u1.heap.size := by omega
 have hB' : w.grownBy u1 (some rb) := by
   refine World.grownBy.trans ?_ hb
   (with_reducible repeat (first | assumption | exact World.grownBy.refl _ _ | refine grown_al ?_ _ | (refine grown_new ?_ ?_; rotate_left; (dsimp only; omega))))
 clear hb hz
 obtain ⟨⟨hz_0, fz_0⟩, ⟨hz_1, fz_1⟩, ⟨hx_3, hx_4⟩⟩ := T
 obtain ⟨hlz, hlx⟩ := L
 obtain ⟨hnz0, hnz1, hkz1, hnz2, hkz2⟩ := ap1f hlz
 have hnx2 : ¬ (w.heap.size = u1.heap.size + 1 + 1) := by omega
 have hkx2 : w.heap.size < u1.heap.size + 1 + 1 := by omega
 have hB := hB'; clear hB'
 have hsz := hB.size
 clear hR
 (try dsimp only at hR1)
 have hw1 : w.heap.size + 2 ≤ u1.heap.size := by omega
 have hv00 : ¬ (w.heap.size = u1.heap.size) := by omega
 have hv01 : ¬ (w.heap.size = u1.heap.size + 1) := by omega
 have hv02 : ¬ (w.heap.size = u1.heap.size + 1 + 1) := by omega
 have hv10 : ¬ (w.heap.size + 1 = u1.heap.size) := by omega
 have hy00 : ¬ (u1.heap.size = w.heap.size) := by omega
 have hy01 : ¬ (u1.heap.size + 1 = w.heap.size) := by omega
 have hy02 : ¬ (u1.heap.size + 1 + 1 = w.heap.size) := by omega
 have hy10 : ¬ (u1.heap.size = w.heap.size + 1) := by omega
 go_wp2_with fail
 ((with_reducible refine (HT1.out _ (by (with_reducible repeat (first | assumption | refine Rd.al ?_ _ | (refine Rd.setl ?_ HLOW hkr ?_ _; rotate_left; (dsimp only; omega)))))).mono ?_); rintro _ u2 ⟨rfl, hR2, hb⟩)
 have T : CF u2 (w.heap.size + 1) 0 (.int .i64 0) ∧ CF u2 (w.heap.size + 1) 1 (.int .i64 0) ∧ CC u2 w.heap.size 3 4 (.int .i64 wl) (.int .i64 wc) ∧ CC u2 u1.heap.size 2 3 (.int .i64 an) (.int .i64 al) ∧ u2.cell? ⟨u1.heap.size, 4, none⟩ = some (.int .i64 ac) ∧ u2.cell? ⟨u1.heap.size + 1, 2, none⟩ = some (.int .i64 an) ∧ u2.cell? ⟨u1.heap.size + 2, 2, none⟩ = some (.int .i64 255) := by
   refine ⟨⟨?_, ?_⟩, ⟨?_, ?_⟩, ⟨?_, ?_⟩, ⟨?_, ?_⟩, ?_, ?_, ?_⟩ <;> first | (refine kg hb (by omega) ?_; go_simp; first | done | rfl) | (refine kgf hb (by omega) (by first | go_size | omega | (simp only [szA]; omega)) ?_; go_simp; first | done | rfl)
 have hz := hb.size
 (try simp only [szA] at hz)
 have L : w.heap.size + 1 < u2.heap.size ∧ w.heap.size < u2.heap.size ∧ u1.heap.size < u2.heap.size ∧ u1.heap.size + 1 < u2.heap.size ∧ u1.heap.size + 2 < u2.heap.size := by omega
 have hB' : w.grownBy u2 (some rb) := by
   refine World.grownBy.trans ?_ hb
   (with_reducible repeat (first | assumption | exact World.grownBy.refl _ _ | refine grown_al ?_ _ | (refine grown_new ?_ ?_; rotate_left; (dsimp only; omega))))
 clear hz_0 fz_0 hz_1 fz_1 hx_3 hx_4 hlz hlx hnz0 hnz1 hkz1 hnz2 hkz2 hnx2 hkx2 hB hsz
 clear hb hz
 obtain ⟨⟨hz_0, fz_0⟩, ⟨hz_1, fz_1⟩, ⟨hx_3, hx_4⟩, ⟨hf_2, hf_3⟩, hf_4, hq_2, hm_2⟩ := T
 obtain ⟨hlz, hlx, hlf, hlq, hlm⟩ := L
 obtain ⟨hnz0, hnz1, hkz1, hnz2, hkz2⟩ := ap1f hlz
 have hnx2 : ¬ (w.heap.size = u2.heap.size + 1 + 1) := by omega
 have hkx2 : w.heap.size < u2.heap.size + 1 + 1 := by omega
 obtain ⟨hnf0, hnf1, hkf1, hnf2, hkf2⟩ := ap0 hlf
 obtain ⟨hnq0, hkq1⟩ := ap1 hlq
 obtain ⟨hnm0, hnm1, hkm1, hnm2, hkm2⟩ := ap0 hlm
 have hB := hB'; clear hB'
 have hsz := hB.size
 clear hR1
 (try dsimp only at hR2)
 go_wp2_with fail
 ((with_reducible refine (HT2.out _ (by (with_reducible repeat (first | assumption | refine Rd.al ?_ _ | (refine Rd.setl ?_ HLOW hkr ?_ _; rotate_left; (dsimp only; omega)))))).mono ?_); rintro _ u3 ⟨rfl, hR3, hb⟩)
 have T : CF u3 (w.heap.size + 1) 0 (.int .i64 0) ∧ CF u3 (w.heap.size + 1) 1 (.int .i64 0) ∧ CC u3 w.heap.size 3 4 (.int .i64 wl) (.int .i64 wc) ∧ CC u3 u1.heap.size 2 3 (.int .i64 an) (.int .i64 al) ∧ u3.cell? ⟨u1.heap.size, 4, none⟩ = some (.int .i64 ac) ∧ u3.cell? ⟨u1.heap.size + 1, 2, none⟩ = some (.int .i64 an) ∧ u3.cell? ⟨u1.heap.size + 2, 2, none⟩ = some (.int .i64 255) := by
   refine ⟨⟨?_, ?_⟩, ⟨?_, ?_⟩, ⟨?_, ?_⟩, ⟨?_, ?_⟩, ?_, ?_, ?_⟩ <;> first | (refine kg hb (by omega) ?_; go_simp; first | done | rfl) | (refine kgf hb (by omega) (by first | go_size | omega | (simp only [szA]; omega)) ?_; go_simp; first | done | rfl)
 have hz := hb.size
 (try simp only [szA] at hz)
 have L : w.heap.size + 1 < u3.heap.size ∧ w.heap.size < u3.heap.size ∧ u1.heap.size < u3.heap.size ∧ u1.heap.size + 1 < u3.heap.size ∧ u1.heap.size + 2 < u3.heap.size := by omega
 have hB' : w.grownBy u3 (some rb) := by
   refine World.grownBy.trans ?_ hb
   (with_reducible repeat (first | assumption | exact World.grownBy.refl _ _ | refine grown_al ?_ _ | (refine grown_new ?_ ?_; rotate_left; (dsimp only; omega))))
 clear hz_0 fz_0 hz_1 fz_1 hx_3 hx_4 hf_2 hf_3 hf_4 hq_2 hm_2 hlz hlx hlf hlq hlm hnz0 hnz1 hkz1 hnz2 hkz2 hnx2 hkx2 hnf0 hnf1 hkf1 hnf2 hkf2 hnq0 hkq1 hnm0 hnm1 hkm1 hnm2 hkm2 hB hsz
 clear hb hz
 obtain ⟨⟨hz_0, fz_0⟩, ⟨hz_1, fz_1⟩, ⟨hx_3, hx_4⟩, ⟨hf_2, hf_3⟩, hf_4, hq_2, hm_2⟩ := T
 obtain ⟨hlz, hlx, hlf, hlq, hlm⟩ := L
 obtain ⟨hnz0, hnz1, hkz1, hnz2, hkz2⟩ := ap1f hlz
 have hnx2 : ¬ (w.heap.size = u3.heap.size + 1 + 1) := by omega
 have hkx2 : w.heap.size < u3.heap.size + 1 + 1 := by omega
 obtain ⟨hnf0, hnf1, hkf1, hnf2, hkf2⟩ := ap0 hlf
 obtain ⟨hnq0, hkq1⟩ := ap1 hlq
 obtain ⟨hnm0, hnm1, hkm1, hnm2, hkm2⟩ := ap0 hlm
 have hB := hB'; clear hB'
 have hsz := hB.size
 clear hR2
 (try dsimp only at hR3)
 go_wp2_with fail
 ((with_reducible refine (HT3.out _ (by (with_reducible repeat (first | assumption | refine Rd.al ?_ _ | (refine Rd.setl ?_ HLOW hkr ?_ _; rotate_left; (dsimp only; omega)))))).mono ?_); rintro _ u4 ⟨rfl, hR4, hb⟩)
 have T : CF u4 (w.heap.size + 1) 0 (.int .i64 0) ∧ CF u4 (w.heap.size + 1) 1 (.int .i64 0) ∧ CC u4 w.heap.size 3 4 (.int .i64 wl) (.int .i64 wc) ∧ CC u4 u1.heap.size 2 3 (.int .i64 an) (.int .i64 al) ∧ u4.cell? ⟨u1.heap.size, 4, none⟩ = some (.int .i64 ac) ∧ u4.cell? ⟨u1.heap.size + 1, 2, none⟩ = some (.int .i64 an) ∧ u4.cell? ⟨u1.heap.size + 2, 2, none⟩ = some (.int .i64 255) := by
   refine ⟨⟨?_, ?_⟩, ⟨?_, ?_⟩, ⟨?_, ?_⟩, ⟨?_, ?_⟩, ?_, ?_, ?_⟩ <;> first | (refine kg hb (by omega) ?_; go_simp; first | done | rfl) | (refine kgf hb (by omega) (by first | go_size | omega | (simp only [szA]; omega)) ?_; go_simp; first | done | rfl)
 have hz := hb.size
 (try simp only [szA] at hz)
 have L : w.heap.size + 1 < u4.heap.size ∧ w.heap.size < u4.heap.size ∧ u1.heap.size < u4.heap.size ∧ u1.heap.size + 1 < u4.heap.size ∧ u1.heap.size + 2 < u4.heap.size := by omega
 have hB' : w.grownBy u4 (some rb) := by
   refine World.grownBy.trans ?_ hb
   (with_reducible repeat (first | assumption | exact World.grownBy.refl _ _ | refine grown_al ?_ _ | (refine grown_new ?_ ?_; rotate_left; (dsimp only; omega))))
 clear hz_0 fz_0 hz_1 fz_1 hx_3 hx_4 hf_2 hf_3 hf_4 hq_2 hm_2 hlz hlx hlf hlq hlm hnz0 hnz1 hkz1 hnz2 hkz2 hnx2 hkx2 hnf0 hnf1 hkf1 hnf2 hkf2 hnq0 hkq1 hnm0 hnm1 hkm1 hnm2 hkm2 hB hsz
 clear hb hz
 obtain ⟨⟨hz_0, fz_0⟩, ⟨hz_1, fz_1⟩, ⟨hx_3, hx_4⟩, ⟨hf_2, hf_3⟩, hf_4, hq_2, hm_2⟩ := T
 obtain ⟨hlz, hlx, hlf, hlq, hlm⟩ := L
 obtain ⟨hnz0, hnz1, hkz1, hnz2, hkz2⟩ := ap1f hlz
 have hnx2 : ¬ (w.heap.size = u4.heap.size + 1 + 1) := by omega
 have hkx2 : w.heap.size < u4.heap.size + 1 + 1 := by omega
 obtain ⟨hnf0, hnf1, hkf1, hnf2, hkf2⟩ := ap0 hlf
 obtain ⟨hnq0, hkq1⟩ := ap1 hlq
 obtain ⟨hnm0, hnm1, hkm1, hnm2, hkm2⟩ := ap0 hlm
 have hB := hB'; clear hB'
 have hsz := hB.size
 clear hR3
 (try dsimp only at hR4)
 go_wp2_with fail
 ((with_reducible refine (wrong_c rb S0 _ ⟨⟨bk, bx, bn, bl, bc⟩ :: rs, ssp, sv, sdn, sdb, stn, stb⟩ ⟨bk, bx, bn, bl, bc⟩ (rs) rfl (by (with_reducible repeat (first | assumption | refine Rd.al ?_ _ | (refine Rd.setl ?_ HLOW hkr ?_ _; rotate_left; (dsimp only; omega)))))).mono ?_); rintro _ u5 ⟨rfl, hb⟩)
 have T : CF u5 (w.heap.size + 1) 0 (.int .i64 0) ∧ CF u5 (w.heap.size + 1) 1 (.int .i64 0) ∧ CC u5 w.heap.size 3 4 (.int .i64 wl) (.int .i64 wc) ∧ CC u5 u1.heap.size 2 3 (.int .i64 an) (.int .i64 al) ∧ u5.cell? ⟨u1.heap.size, 4, none⟩ = some (.int .i64 ac) ∧ u5.cell? ⟨u1.heap.size + 1, 2, none⟩ = some (.int .i64 an) ∧ u5.cell? ⟨u1.heap.size + 2, 2, none⟩ = some (.int .i64 255) := by
   refine ⟨⟨?_, ?_⟩, ⟨?_, ?_⟩, ⟨?_, ?_⟩, ⟨?_, ?_⟩, ?_, ?_, ?_⟩ <;> first | (refine kg hb (by omega) ?_; go_simp; first | done | rfl) | (refine kgf hb (by omega) (by first | go_size | omega | (simp only [szA]; omega)) ?_; go_simp; first | done | rfl)
 have hz := hb.size
 (try simp only [szA] at hz)
 have L : w.heap.size + 1 < u5.heap.size ∧ w.heap.size < u5.heap.size ∧ u1.heap.size < u5.heap.size ∧ u1.heap.size + 1 < u5.heap.size ∧ u1.heap.size + 2 < u5.heap.size := by omega
 have hB' : w.grownBy u5 (some rb) := by
   refine World.grownBy.trans ?_ hb
   (with_reducible repeat (first | assumption | exact World.grownBy.refl _ _ | refine grown_al ?_ _ | (refine grown_new ?_ ?_; rotate_left; (dsimp only; omega))))
 clear hz_0 fz_0 hz_1 fz_1 hx_3 hx_4 hf_2 hf_3 hf_4 hq_2 hm_2 hlz hlx hlf hlq hlm hnz0 hnz1 hkz1 hnz2 hkz2 hnx2 hkx2 hnf0 hnf1 hkf1 hnf2 hkf2 hnq0 hkq1 hnm0 hnm1 hkm1 hnm2 hkm2 hB hsz
 clear hb hz
 obtain ⟨⟨hz_0, fz_0⟩, ⟨hz_1, fz_1⟩, ⟨hx_3, hx_4⟩, ⟨hf_2, hf_3⟩, hf_4, hq_2, hm_2⟩ := T
 obtain ⟨hlz, hlx, hlf, hlq, hlm⟩ := L
 obtain ⟨hnz0, hnz1, hkz1, hnz2, hkz2⟩ := ap1f hlz
 have hnx2 : ¬ (w.heap.size = u5.heap.size + 1 + 1) := by omega
 have hkx2 : w.heap.size < u5.heap.size + 1 + 1 := by omega
 obtain ⟨hnf0, hnf1, hkf1, hnf2, hkf2⟩ := ap0 hlf
 obtain ⟨hnq0, hkq1⟩ := ap1 hlq
 obtain ⟨hnm0, hnm1, hkm1, hnm2, hkm2⟩ := ap0 hlm
 have hB := hB'; clear hB'
 have hsz := hB.size
 go_wp2
 refine bodyPost_ret (v := .tuple #[.agg #[.int .i64 bl, .int .i64 bc], .int .i64 11]) (by simp [results, Tryz.results55, go_sem, hz_0, hz_1] <;> first | done | rfl) rfl (spanEnd_err HF.out.1 HF.out.2.1 HF.out.2.2 (by decide) (Tur.of_grown (by (with_reducible repeat (first | assumption | exact World.grownBy.refl _ _ | refine grown_al ?_ _ | (refine grown_new ?_ ?_; rotate_left; (dsimp only; omega))))) hlt hsz0))
set_option maxHeartbeats 8000000 in
theorem span_A00 (ak an al ac : Int) (ax : List UInt8) (bk bn bl bc : Int) (bx : List UInt8) (rs : List Tk) (h0 : ak = 2) (h1 : ¬ bk = 3) (h2 : ¬ bx = bitsL) (h3 : bk = 4) (sink : Bool) (wk wn wl wc : Int) (wx : List UInt8) (ssp : List Mk) (sv : Value) (sdn stn : Int) (sdb stb : Bool) (hsp : ssp.length ≤ 64) (rb S0 : Nat) (w : World) (hR : Rd rb S0 w ⟨⟨ak, ax, an, al, ac⟩ :: ⟨bk, bx, bn, bl, bc⟩ :: rs, ssp, sv, sdn, sdb, stn, stb⟩) :
  Calls Tryz.prog 55 #[.pointer (some ⟨rb, 0, none⟩), tkV ⟨wk, wx, wn, wl, wc⟩, .bool sink] w (SpanEnd rb S0 w ⟨⟨ak, ax, an, al, ac⟩ :: ⟨bk, bx, bn, bl, bc⟩ :: rs, ssp, sv, sdn, sdb, stn, stb⟩ ⟨wk, wx, wn, wl, wc⟩ sink (spanM (⟨ak, ax, an, al, ac⟩ :: ⟨bk, bx, bn, bl, bc⟩ :: rs))) := by
 have hlt := hR.lt
 have hsz0 := hR.sz
 have hkr : rb < w.heap.size := by omega
 have hrw : ¬ rb = w.heap.size := by omega
 have HLOW := hid (show ∀ g, sv.ownBlock = some g → g < w.heap.size from fun g h => (hR.row.2.lt g h).2)
 obtain ⟨O, hO⟩ : ∃ O, spanM (⟨ak, ax, an, al, ac⟩ :: ⟨bk, bx, bn, bl, bc⟩ :: rs) = O := ⟨_, rfl⟩
 rw [hO]
 have HO := hid hO
 clear hO
 have HF := hid (show O.e = 0 ∧ O.fl = al ∧ O.fc = ac ∧ O.x = ⟨an, an, 255⟩ ∧ O.r = rs from by rw [← HO.out]; simp [spanM, maskM, endM, errO, h0, h1, h2, h3])
 have ht0 : (ak == 2) = true := by rw [h0]; rfl
 have HT0 := hid (fun W hR => (takei_c 2 rb S0 W ⟨⟨ak, ax, an, al, ac⟩ :: ⟨bk, bx, bn, bl, bc⟩ :: rs, ssp, sv, sdn, sdb, stn, stb⟩ ⟨ak, ax, an, al, ac⟩ (⟨bk, bx, bn, bl, bc⟩ :: rs) rfl hR).mono (fun e w' h => h.1 ht0))
 (try dsimp only [tkV] at HT0)
 have ht1 : (bk == 3) = false := by exact beq_eq_false_iff_ne.2 h1
 have HT1 := hid (fun W hR => (takei_c 3 rb S0 W ⟨⟨bk, bx, bn, bl, bc⟩ :: rs, ssp, sv, sdn, sdb, stn, stb⟩ ⟨bk, bx, bn, bl, bc⟩ (rs) rfl hR).mono (fun e w' h => h.2 ht1))
 (try dsimp only [tkV] at HT1)
 have ht2 : (bx == [98, 105, 116, 115]) = false := by exact beq_eq_false_iff_ne.2 h2
 have HT2 := hid (fun W hR => (takes_c [98, 105, 116, 115] rb S0 W ⟨⟨bk, bx, bn, bl, bc⟩ :: rs, ssp, sv, sdn, sdb, stn, stb⟩ ⟨bk, bx, bn, bl, bc⟩ (rs) rfl hR).mono (fun e w' h => h.2 ht2))
 (try dsimp only [tkV] at HT2)
 have ht3 : (bk == 4) = true := by rw [h3]; rfl
 have HT3 := hid (fun W hR => (takei_c 4 rb S0 W ⟨⟨bk, bx, bn, bl, bc⟩ :: rs, ssp, sv, sdn, sdb, stn, stb⟩ ⟨bk, bx, bn, bl, bc⟩ (rs) rfl hR).mono (fun e w' h => h.1 ht3))
 (try dsimp only [tkV] at HT3)
 skip
 clear ht0 ht1 ht2 ht3 HO
 unfold tkV
 (try dsimp only)
 generalize txB ax = aT at *
 generalize txB bx = bT at *
 generalize txB wx = wT at *
 go_enter Tryz.func55, Tryz.ntmps55
 go_wp2_with fail
 ((with_reducible refine (HT0.out _ (by (with_reducible repeat (first | assumption | refine Rd.al ?_ _ | (refine Rd.setl ?_ HLOW hkr ?_ _; rotate_left; (dsimp only; omega)))))).mono ?_); rintro _ u1 ⟨rfl, hR1, hb⟩)
 have T : CF u1 (w.heap.size + 1) 0 (.int .i64 0) ∧ CF u1 (w.heap.size + 1) 1 (.int .i64 0) ∧ CC u1 w.heap.size 3 4 (.int .i64 wl) (.int .i64 wc) := by
   refine ⟨⟨?_, ?_⟩, ⟨?_, ?_⟩, ⟨?_, ?_⟩⟩ <;> first | (refine kg hb (by omega) ?_; go_simp; first | done | rfl) | (refine kgf hb (by omega) (by first | go_size | omega | (simp only [szA]; omega)) ?_; go_simp; first | done | rfl)
 have hz := hb.size
 (try simp only [szA] at hz)
 have L : w.heap.size + 1 < u1.heap.size ∧ w.heap.size < u1.heap.size := by omega
 have hB' : w.grownBy u1 (some rb) := by
   refine World.grownBy.trans ?_ hb
   (with_reducible repeat (first | assumption | exact World.grownBy.refl _ _ | refine grown_al ?_ _ | (refine grown_new ?_ ?_; rotate_left; (dsimp only; omega))))
 clear hb hz
 obtain ⟨⟨hz_0, fz_0⟩, ⟨hz_1, fz_1⟩, ⟨hx_3, hx_4⟩⟩ := T
 obtain ⟨hlz, hlx⟩ := L
 obtain ⟨hnz0, hnz1, hkz1, hnz2, hkz2⟩ := ap1f hlz
 have hnx2 : ¬ (w.heap.size = u1.heap.size + 1 + 1) := by omega
 have hkx2 : w.heap.size < u1.heap.size + 1 + 1 := by omega
 have hB := hB'; clear hB'
 have hsz := hB.size
 clear hR
 (try dsimp only at hR1)
 have hw1 : w.heap.size + 2 ≤ u1.heap.size := by omega
 have hv00 : ¬ (w.heap.size = u1.heap.size) := by omega
 have hv01 : ¬ (w.heap.size = u1.heap.size + 1) := by omega
 have hv02 : ¬ (w.heap.size = u1.heap.size + 1 + 1) := by omega
 have hv10 : ¬ (w.heap.size + 1 = u1.heap.size) := by omega
 have hy00 : ¬ (u1.heap.size = w.heap.size) := by omega
 have hy01 : ¬ (u1.heap.size + 1 = w.heap.size) := by omega
 have hy02 : ¬ (u1.heap.size + 1 + 1 = w.heap.size) := by omega
 have hy10 : ¬ (u1.heap.size = w.heap.size + 1) := by omega
 go_wp2_with fail
 ((with_reducible refine (HT1.out _ (by (with_reducible repeat (first | assumption | refine Rd.al ?_ _ | (refine Rd.setl ?_ HLOW hkr ?_ _; rotate_left; (dsimp only; omega)))))).mono ?_); rintro _ u2 ⟨rfl, hR2, hb⟩)
 have T : CF u2 (w.heap.size + 1) 0 (.int .i64 0) ∧ CF u2 (w.heap.size + 1) 1 (.int .i64 0) ∧ CC u2 w.heap.size 3 4 (.int .i64 wl) (.int .i64 wc) ∧ CC u2 u1.heap.size 2 3 (.int .i64 an) (.int .i64 al) ∧ u2.cell? ⟨u1.heap.size, 4, none⟩ = some (.int .i64 ac) ∧ u2.cell? ⟨u1.heap.size + 1, 2, none⟩ = some (.int .i64 an) ∧ u2.cell? ⟨u1.heap.size + 2, 2, none⟩ = some (.int .i64 255) := by
   refine ⟨⟨?_, ?_⟩, ⟨?_, ?_⟩, ⟨?_, ?_⟩, ⟨?_, ?_⟩, ?_, ?_, ?_⟩ <;> first | (refine kg hb (by omega) ?_; go_simp; first | done | rfl) | (refine kgf hb (by omega) (by first | go_size | omega | (simp only [szA]; omega)) ?_; go_simp; first | done | rfl)
 have hz := hb.size
 (try simp only [szA] at hz)
 have L : w.heap.size + 1 < u2.heap.size ∧ w.heap.size < u2.heap.size ∧ u1.heap.size < u2.heap.size ∧ u1.heap.size + 1 < u2.heap.size ∧ u1.heap.size + 2 < u2.heap.size := by omega
 have hB' : w.grownBy u2 (some rb) := by
   refine World.grownBy.trans ?_ hb
   (with_reducible repeat (first | assumption | exact World.grownBy.refl _ _ | refine grown_al ?_ _ | (refine grown_new ?_ ?_; rotate_left; (dsimp only; omega))))
 clear hz_0 fz_0 hz_1 fz_1 hx_3 hx_4 hlz hlx hnz0 hnz1 hkz1 hnz2 hkz2 hnx2 hkx2 hB hsz
 clear hb hz
 obtain ⟨⟨hz_0, fz_0⟩, ⟨hz_1, fz_1⟩, ⟨hx_3, hx_4⟩, ⟨hf_2, hf_3⟩, hf_4, hq_2, hm_2⟩ := T
 obtain ⟨hlz, hlx, hlf, hlq, hlm⟩ := L
 obtain ⟨hnz0, hnz1, hkz1, hnz2, hkz2⟩ := ap1f hlz
 have hnx2 : ¬ (w.heap.size = u2.heap.size + 1 + 1) := by omega
 have hkx2 : w.heap.size < u2.heap.size + 1 + 1 := by omega
 obtain ⟨hnf0, hnf1, hkf1, hnf2, hkf2⟩ := ap0 hlf
 obtain ⟨hnq0, hkq1⟩ := ap1 hlq
 obtain ⟨hnm0, hnm1, hkm1, hnm2, hkm2⟩ := ap0 hlm
 have hB := hB'; clear hB'
 have hsz := hB.size
 clear hR1
 (try dsimp only at hR2)
 go_wp2_with fail
 ((with_reducible refine (HT2.out _ (by (with_reducible repeat (first | assumption | refine Rd.al ?_ _ | (refine Rd.setl ?_ HLOW hkr ?_ _; rotate_left; (dsimp only; omega)))))).mono ?_); rintro _ u3 ⟨rfl, hR3, hb⟩)
 have T : CF u3 (w.heap.size + 1) 0 (.int .i64 0) ∧ CF u3 (w.heap.size + 1) 1 (.int .i64 0) ∧ CC u3 w.heap.size 3 4 (.int .i64 wl) (.int .i64 wc) ∧ CC u3 u1.heap.size 2 3 (.int .i64 an) (.int .i64 al) ∧ u3.cell? ⟨u1.heap.size, 4, none⟩ = some (.int .i64 ac) ∧ u3.cell? ⟨u1.heap.size + 1, 2, none⟩ = some (.int .i64 an) ∧ u3.cell? ⟨u1.heap.size + 2, 2, none⟩ = some (.int .i64 255) := by
   refine ⟨⟨?_, ?_⟩, ⟨?_, ?_⟩, ⟨?_, ?_⟩, ⟨?_, ?_⟩, ?_, ?_, ?_⟩ <;> first | (refine kg hb (by omega) ?_; go_simp; first | done | rfl) | (refine kgf hb (by omega) (by first | go_size | omega | (simp only [szA]; omega)) ?_; go_simp; first | done | rfl)
 have hz := hb.size
 (try simp only [szA] at hz)
 have L : w.heap.size + 1 < u3.heap.size ∧ w.heap.size < u3.heap.size ∧ u1.heap.size < u3.heap.size ∧ u1.heap.size + 1 < u3.heap.size ∧ u1.heap.size + 2 < u3.heap.size := by omega
 have hB' : w.grownBy u3 (some rb) := by
   refine World.grownBy.trans ?_ hb
   (with_reducible repeat (first | assumption | exact World.grownBy.refl _ _ | refine grown_al ?_ _ | (refine grown_new ?_ ?_; rotate_left; (dsimp only; omega))))
 clear hz_0 fz_0 hz_1 fz_1 hx_3 hx_4 hf_2 hf_3 hf_4 hq_2 hm_2 hlz hlx hlf hlq hlm hnz0 hnz1 hkz1 hnz2 hkz2 hnx2 hkx2 hnf0 hnf1 hkf1 hnf2 hkf2 hnq0 hkq1 hnm0 hnm1 hkm1 hnm2 hkm2 hB hsz
 clear hb hz
 obtain ⟨⟨hz_0, fz_0⟩, ⟨hz_1, fz_1⟩, ⟨hx_3, hx_4⟩, ⟨hf_2, hf_3⟩, hf_4, hq_2, hm_2⟩ := T
 obtain ⟨hlz, hlx, hlf, hlq, hlm⟩ := L
 obtain ⟨hnz0, hnz1, hkz1, hnz2, hkz2⟩ := ap1f hlz
 have hnx2 : ¬ (w.heap.size = u3.heap.size + 1 + 1) := by omega
 have hkx2 : w.heap.size < u3.heap.size + 1 + 1 := by omega
 obtain ⟨hnf0, hnf1, hkf1, hnf2, hkf2⟩ := ap0 hlf
 obtain ⟨hnq0, hkq1⟩ := ap1 hlq
 obtain ⟨hnm0, hnm1, hkm1, hnm2, hkm2⟩ := ap0 hlm
 have hB := hB'; clear hB'
 have hsz := hB.size
 clear hR2
 (try dsimp only at hR3)
 go_wp2_with fail
 ((with_reducible refine (HT3.out _ (by (with_reducible repeat (first | assumption | refine Rd.al ?_ _ | (refine Rd.setl ?_ HLOW hkr ?_ _; rotate_left; (dsimp only; omega)))))).mono ?_); rintro _ u4 ⟨rfl, hR4, hb⟩)
 have T : CF u4 (w.heap.size + 1) 0 (.int .i64 0) ∧ CF u4 (w.heap.size + 1) 1 (.int .i64 0) ∧ CC u4 w.heap.size 3 4 (.int .i64 wl) (.int .i64 wc) ∧ CC u4 u1.heap.size 2 3 (.int .i64 an) (.int .i64 al) ∧ u4.cell? ⟨u1.heap.size, 4, none⟩ = some (.int .i64 ac) ∧ u4.cell? ⟨u1.heap.size + 1, 2, none⟩ = some (.int .i64 an) ∧ u4.cell? ⟨u1.heap.size + 2, 2, none⟩ = some (.int .i64 255) := by
   refine ⟨⟨?_, ?_⟩, ⟨?_, ?_⟩, ⟨?_, ?_⟩, ⟨?_, ?_⟩, ?_, ?_, ?_⟩ <;> first | (refine kg hb (by omega) ?_; go_simp; first | done | rfl) | (refine kgf hb (by omega) (by first | go_size | omega | (simp only [szA]; omega)) ?_; go_simp; first | done | rfl)
 have hz := hb.size
 (try simp only [szA] at hz)
 have L : w.heap.size + 1 < u4.heap.size ∧ w.heap.size < u4.heap.size ∧ u1.heap.size < u4.heap.size ∧ u1.heap.size + 1 < u4.heap.size ∧ u1.heap.size + 2 < u4.heap.size := by omega
 have hB' : w.grownBy u4 (some rb) := by
   refine World.grownBy.trans ?_ hb
   (with_reducible repeat (first | assumption | exact World.grownBy.refl _ _ | refine grown_al ?_ _ | (refine grown_new ?_ ?_; rotate_left; (dsimp only; omega))))
 clear hz_0 fz_0 hz_1 fz_1 hx_3 hx_4 hf_2 hf_3 hf_4 hq_2 hm_2 hlz hlx hlf hlq hlm hnz0 hnz1 hkz1 hnz2 hkz2 hnx2 hkx2 hnf0 hnf1 hkf1 hnf2 hkf2 hnq0 hkq1 hnm0 hnm1 hkm1 hnm2 hkm2 hB hsz
 clear hb hz
 obtain ⟨⟨hz_0, fz_0⟩, ⟨hz_1, fz_1⟩, ⟨hx_3, hx_4⟩, ⟨hf_2, hf_3⟩, hf_4, hq_2, hm_2⟩ := T
 obtain ⟨hlz, hlx, hlf, hlq, hlm⟩ := L
 obtain ⟨hnz0, hnz1, hkz1, hnz2, hkz2⟩ := ap1f hlz
 have hnx2 : ¬ (w.heap.size = u4.heap.size + 1 + 1) := by omega
 have hkx2 : w.heap.size < u4.heap.size + 1 + 1 := by omega
 obtain ⟨hnf0, hnf1, hkf1, hnf2, hkf2⟩ := ap0 hlf
 obtain ⟨hnq0, hkq1⟩ := ap1 hlq
 obtain ⟨hnm0, hnm1, hkm1, hnm2, hkm2⟩ := ap0 hlm
 have hB := hB'; clear hB'
 have hsz := hB.size
 clear hR3
 (try dsimp only at hR4)
 have HSP := hid hsp
 have HG := hid hB
 have HR := hid hR4
 have HA := hid (fun W (hb : Below u4.heap.size u4 W) => add_c an an 255 sink ssp HSP.out rb 1 S0 sv W (HR.out.on hb).row.1 ((HR.out.on hb).fr 1 (by omega)) (HR.out.on hb).row.2 hlt (HR.out.on hb).sz)
 have hrow := (HR.out).row.1
 clear hsp hR4
 have hbr : Below u4.heap.size u4 u4 := Below.refl _ _
 have hwu := HG.out.size
 have wm : IntKind.u8.wrap 255 = 255 := by decide
 go_wp2_with fail
 refine wp_region_planT 13 (fun w' => w'.cell? ⟨w.heap.size + 1, 0, none⟩ = some (.int .i64 0) ∧ w'.frozen? ⟨w.heap.size + 1, 0, none⟩ = false ∧ w'.cell? ⟨w.heap.size + 1, 1, none⟩ = some (.int .i64 0) ∧ w'.frozen? ⟨w.heap.size + 1, 1, none⟩ = false ∧ w'.cell? ⟨w.heap.size, 3, none⟩ = some (.int .i64 wl) ∧ w'.cell? ⟨w.heap.size, 4, none⟩ = some (.int .i64 wc) ∧ w'.cell? ⟨u1.heap.size, 2, none⟩ = some (.int .i64 an) ∧ w'.cell? ⟨u1.heap.size, 3, none⟩ = some (.int .i64 al) ∧ w'.cell? ⟨u1.heap.size, 4, none⟩ = some (.int .i64 ac) ∧ w'.cell? ⟨u1.heap.size + 1, 2, none⟩ = some (.int .i64 an) ∧ w'.cell? ⟨u1.heap.size + 2, 2, none⟩ = some (.int .i64 255) ∧ Below u4.heap.size u4 w') (by kernel_rfl) (by kernel_rfl) (by kernel_rfl) (by kernel_rfl) ?_ ?_
 ·(try dsimp only)
  refine ⟨?_, ?_, ?_, ?_, ?_, ?_, ?_, ?_, ?_, ?_, ?_, ?_⟩ <;> first | (go_simp; done) | (simp [*]; done) | go_grown
 (try simp only [append_eq, cons_append, nil_append, toList_toArray, take_succ_cons, take_zero, drop_succ_cons, drop_zero])
 repeat (first
  | (refine Plan.val (v := ?_) ?_ ?_ ?_; rotate_left; (· rfl); (· (intro W hSw; (try dsimp only at hSw); go_simp; all_goals (first | (with_reducible rfl) | (constructor <;> (with_reducible rfl)) | (rw [if_neg (by omega)]; done) | (rw [if_neg (by omega)]; with_reducible rfl)))); (try simp only [Act.put, setIfInBounds_toArray, set_cons_zero, set_cons_succ]))
  | (refine Plan.no ?_ ?_; (· rfl); (try simp only [Act.put, setIfInBounds_toArray, set_cons_zero, set_cons_succ])))
 refine Plan.done ?_
 intro v T
 (try dsimp only at T)
 clear hz_0 fz_0 hz_1 fz_1 hx_3 hx_4 hf_2 hf_3 hf_4 hq_2 hm_2 hlz hlx hlf hlq hlm hnz0 hnz1 hkz1 hnz2 hkz2 hnx2 hkx2 hnf0 hnf1 hkf1 hnf2 hkf2 hnq0 hkq1 hnm0 hnm1 hkm1 hnm2 hkm2 hB hsz
 obtain ⟨hz_0, fz_0, hz_1, fz_1, hx_3, hx_4, hf_2, hf_3, hf_4, hq_2, hm_2, hB⟩ := T
 have hsz := hB.size
 have hlz := klt hz_0
 have hlx := klt hx_3
 have hlf := klt hf_2
 have hlq := klt hq_2
 have hlm := klt hm_2
 obtain ⟨hnz0, hnz1, hkz1, hnz2, hkz2⟩ := ap1f hlz
 have hnx2 : ¬ (w.heap.size = v.heap.size + 1 + 1) := by omega
 have hkx2 : w.heap.size < v.heap.size + 1 + 1 := by omega
 obtain ⟨hnf0, hnf1, hkf1, hnf2, hkf2⟩ := ap0 hlf
 obtain ⟨hnq0, hkq1⟩ := ap1 hlq
 obtain ⟨hnm0, hnm1, hkm1, hnm2, hkm2⟩ := ap0 hlm
 go_wp2_with fail
 have hrv : v.cell? ⟨rb, 1, none⟩ = some sv := kc hB hrow
 have HT := hid ((Tur.of_grown (v := sv) HG.out hlt hsz0).trans (Tur.of_below hB hlt (HR.out).sz))
 have HRv := hid (HR.out.on hB)
 have HRW := hid hrv
 obtain ⟨A, hA⟩ : ∃ A, addM ⟨⟨an, an, 255⟩, sink⟩ ssp = A := ⟨_, rfl⟩
 have HAA := hid hA
 have HA2 := hid ((HA.out _ hB).mono (fun e w' (h : _ ∧ _) => (⟨by rw [← hA]; exact h.1, fun g => h.2.1 (by rw [hA]; exact g), fun g => h.2.2 (by rw [hA]; exact g)⟩ : e = .returned (.int .i64 A) ∧ (A ≠ 0 → Below v.heap.size v w') ∧ (A = 0 → Added v w' rb 1 S0 (ssp ++ [⟨⟨an, an, 255⟩, sink⟩])))))
 clear hA hrow HA
 have hvz : w.heap.size + 1 < v.heap.size := hlz
 have hvx := hlx
 have hvf := hlf
 (with_reducible refine (HA2.out).mono ?_)
 rintro _ y ⟨rfl, hno, hyes⟩
 have HNo := hid hno
 have HYes := hid hyes
 clear hno hyes HA2 hrv
 cases h0 : (A == 0)
 ·have hA0 : A ≠ 0 := beq_eq_false_iff_ne.1 h0
  have hb := HNo.out hA0
  have yz_0 := kc hb hz_0
  have yz_1 := kc hb hz_1
  have yx_3 := kc hb hx_3
  have yx_4 := kc hb hx_4
  have yf_3 := kc hb hf_3
  have yf_4 := kc hb hf_4
  have yfz_0 := kfz hb hvz fz_0
  have yfz_1 := kfz hb hvz fz_1
  have hyz := hb.size
  have HTy := hid (HT.out.trans (Tur.of_below hb hlt HRv.out.sz))
  clear hb
  cases h10 : (A == 10)
  ·have hA10 : A ≠ 10 := beq_eq_false_iff_ne.1 h10
   go_wp2
   refine bodyPost_ret (v := .tuple #[.agg #[.int .i64 wl, .int .i64 wc], .int .i64 A]) (by simp [results, Tryz.results55, go_sem, yz_0, yz_1] <;> first | done | rfl) rfl (spanEnd_no HF.out.1 HF.out.2.2.2.1 HAA.out hA0 (by rw [if_neg hA10]) (by rw [if_neg hA10]) ((HTy.out.setn hlt hsz0 (by dsimp only; omega) _).setn hlt hsz0 (by dsimp only; omega) _))
  ·obtain rfl : A = 10 := beq_iff_eq.1 h10
   go_wp2
   refine bodyPost_ret (v := .tuple #[.agg #[.int .i64 al, .int .i64 ac], .int .i64 10]) (by simp [results, Tryz.results55, go_sem, yz_0, yz_1] <;> first | done | rfl) rfl (spanEnd_no HF.out.1 HF.out.2.2.2.1 HAA.out hA0 (by rw [if_pos rfl]; exact HF.out.2.1.symm) (by rw [if_pos rfl]; exact HF.out.2.2.1.symm) ((HTy.out.setn hlt hsz0 (by dsimp only; omega) _).setn hlt hsz0 (by dsimp only; omega) _))
 ·obtain rfl : A = 0 := beq_iff_eq.1 h0
  have ha := HYes.out rfl
  have hk := ha.own HRW.out HLOW (b := w.heap.size + 1) (by omega) hkr hvz
  have yz_0 := (World.cell?_of_block (a := ⟨w.heap.size + 1, 0, none⟩) hk).trans hz_0
  have yfz_0 := (World.frozen?_of_block (a := ⟨w.heap.size + 1, 0, none⟩) hk).trans fz_0
  have yz_1 := (World.cell?_of_block (a := ⟨w.heap.size + 1, 1, none⟩) hk).trans hz_1
  have yfz_1 := (World.frozen?_of_block (a := ⟨w.heap.size + 1, 1, none⟩) hk).trans fz_1
  have hyz := ha.below.size
  have HTy := hid (HT.out.trans (Tur.added ha HRW.out))
  obtain ⟨v', hR', hat⟩ := HRv.out.added ha
  have hat' : ∀ g, v'.ownBlock = some g → g ≠ w.heap.size + 1 := fun g e => by
   rcases hat with h | ⟨g', h, hg⟩
   ·have := HLOW.out g (by rw [← h]; exact e)
    omega
   ·rw [h] at e; cases e; omega
  have HRy := hid ((hR'.setn (p := ⟨w.heap.size + 1, 0, none⟩) (by dsimp only; omega) hat' (.int .i64 0)).setn (p := ⟨w.heap.size + 1, 1, none⟩) (by dsimp only; omega) hat' (.int .i64 0))
  have HAt := hid (show v'.ownBlock = sv.ownBlock ∨ ∃ g, v'.ownBlock = some g ∧ w.heap.size ≤ g from by
   rcases hat with h | ⟨g, h, hg⟩
   ·exact .inl h
   ·exact .inr ⟨g, h, by omega⟩)
  clear ha hk hR' hat hat'
  go_wp2
  refine bodyPost_ret (v := .tuple #[.agg #[.int .i64 0, .int .i64 0], .int .i64 0]) (by simp [results, Tryz.results55, go_sem, yz_0, yz_1] <;> first | done | rfl) rfl (spanEnd_ok HF.out.1 HF.out.2.2.2.1 HF.out.2.2.2.2 HAA.out ⟨v', HRy.out, HAt.out⟩ ((HTy.out.setn hlt hsz0 (by dsimp only; omega) _).setn hlt hsz0 (by dsimp only; omega) _))
end Go.Proofs.YtjcmblbnbpikfaaGreatDoor
