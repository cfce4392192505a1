/-
  Layer 7, the program's reader: the rest of a line of a number that there may be once, way by way.
-/
import Derived.Test.YtjcmblbnbpikfaaGreatDoorSettp
set_option linter.unusedSimpArgs false
set_option linter.unusedVariables false
namespace Go.Proofs.YtjcmblbnbpikfaaGreatDoor
open Go.RowKit Go.PlainAid

set_option maxRecDepth 100000 in
set_option maxHeartbeats 8000000 in
theorem settD_A (ak an al ac : Int) (ax : List UInt8) (rs : List Tk) (wk wn wl wc : Int) (wx : List UInt8) (ssp : List Mk) (sv : Value) (sdn stn : Int) (sdb stb : Bool) (h0 : ¬ ak = 2) (rb S0 : Nat) (w : World) (hR : Rd rb S0 w ⟨⟨ak, ax, an, al, ac⟩ :: rs, ssp, sv, sdn, sdb, stn, stb⟩) :
    Calls Tryz.prog 56 #[.pointer (some ⟨rb, 0, none⟩), tkV ⟨wk, wx, wn, wl, wc⟩, .pointer (some ⟨rb, 2, none⟩), .func (.func 27) #[] #[]] w (SetEnd rb S0 sv w (fun o => ⟨o.r, ssp, sv, o.n, true, stn, stb⟩) (settM sdb mayD ⟨wk, wx, wn, wl, wc⟩ (⟨ak, ax, an, al, ac⟩ :: rs))) := by
  have hlt := hR.lt
  have hsz0 := hR.sz
  have hkr : rb < w.heap.size := by omega
  have hrw : ¬ rb = w.heap.size := by omega
  have hrw1 : ¬ rb = w.heap.size + 1 := by omega
  have HLOW := Lib.hid (show ∀ g, sv.ownBlock = some g → g < w.heap.size from fun g h => (hR.row.2.lt g h).2)
  obtain ⟨O, hO⟩ : ∃ O, settM sdb mayD ⟨wk, wx, wn, wl, wc⟩ (⟨ak, ax, an, al, ac⟩ :: rs) = O := ⟨_, rfl⟩
  rw [hO]
  have HF := Lib.hid (show O.e = 11 ∧ O.li = al ∧ O.co = ac from by rw [← hO]; simp [settM, h0])
  clear hO
  have ht0 : (ak == 2) = false := by exact beq_eq_false_iff_ne.2 h0
  have HT0 := Lib.hid (fun W hR => (takei_c 2 rb S0 W ⟨⟨ak, ax, an, al, ac⟩ :: rs, ssp, sv, sdn, sdb, stn, stb⟩ ⟨ak, ax, an, al, ac⟩ (rs) rfl hR).mono (fun e w' h => h.2 ht0))
  (try dsimp only [tkV] at HT0)
  clear ht0
  unfold tkV
  (try dsimp only)
  generalize txB ax = aT at *
  generalize txB wx = wT at *
  go_enter Tryz.func56, Tryz.ntmps56
  go_wp2_with fail
  ((with_reducible refine (HT0.out _ (by (repeat (first | with_reducible assumption | (with_reducible refine Rd.al ?_ _) | ((with_reducible refine Rd.setl ?_ HLOW hkr ?_ _); rotate_left; (dsimp only; omega)))))).mono ?_); rintro _ u1 ⟨rfl, hR1, hb⟩)
  have T : CF u1 (w.heap.size + 1) 0 (.int .i64 0) ∧ CF u1 (w.heap.size + 1) 1 (.int .i64 0) ∧ CC u1 w.heap.size 3 4 (.int .i64 wl) (.int .i64 wc) := by
      refine ⟨⟨?_, ?_⟩, ⟨?_, ?_⟩, ⟨?_, ?_⟩⟩ <;> first | (refine kg hb ?_ ?_; (· omega); (· (go_simp; first | done | rfl))) | (refine kgf hb ?_ ?_ ?_; (· omega); (· first | go_size | omega | (simp only [World.size_alloc, World.size_setCell, World.size_drew]; omega)); (· (go_simp; first | done | rfl)))
  have hz := hb.size
  (try simp only [World.size_alloc, World.size_setCell, World.size_drew] at hz)
  have L : w.heap.size + 1 < u1.heap.size ∧ w.heap.size < u1.heap.size := by omega
  have hB' : w.grownBy u1 (some rb) := by
      refine World.grownBy.trans ?_ hb
      (repeat (first | with_reducible assumption | with_reducible exact World.grownBy.refl _ _ | (with_reducible refine grown_al ?_ _) | ((with_reducible refine grown_new ?_ ?_); rotate_left; (dsimp only; omega))))
  clear hb hz
  obtain ⟨⟨hz_0, fz_0⟩, ⟨hz_1, fz_1⟩, ⟨hx_3, hx_4⟩⟩ := T
  obtain ⟨hlz, hlx⟩ := L
  obtain ⟨hnz0, hnz1, hkz1, hnz2, hkz2⟩ := ap1f hlz
  have hnx2 : ¬ (w.heap.size = u1.heap.size + 1 + 1) := by omega
  have hkx2 : w.heap.size < u1.heap.size + 1 + 1 := by omega
  have hB := hB'; clear hB'
  have hsz := hB.size
  clear hR
  (try dsimp only at hR1)
  have hw1 : w.heap.size + 2 ≤ u1.heap.size := by omega
  have hv0 : ¬ (w.heap.size = u1.heap.size) := by omega
  have hy0 : ¬ (u1.heap.size = w.heap.size) := by omega
  have hv1 : ¬ (w.heap.size + 1 = u1.heap.size) := by omega
  have hy1 : ¬ (u1.heap.size = w.heap.size + 1) := by omega
  go_wp2_with fail
  ((with_reducible refine (wrong_c rb S0 _ ⟨⟨ak, ax, an, al, ac⟩ :: rs, ssp, sv, sdn, sdb, stn, stb⟩ ⟨ak, ax, an, al, ac⟩ rs rfl (by (repeat (first | with_reducible assumption | (with_reducible refine Rd.al ?_ _) | ((with_reducible refine Rd.setl ?_ HLOW hkr ?_ _); rotate_left; (dsimp only; omega)))))).mono ?_); rintro _ u2 ⟨rfl, hb⟩)
  have T : CF u2 (w.heap.size + 1) 0 (.int .i64 0) ∧ CF u2 (w.heap.size + 1) 1 (.int .i64 0) ∧ CC u2 w.heap.size 3 4 (.int .i64 wl) (.int .i64 wc) := by
      refine ⟨⟨?_, ?_⟩, ⟨?_, ?_⟩, ⟨?_, ?_⟩⟩ <;> first | (refine kg hb ?_ ?_; (· omega); (· (go_simp; first | done | rfl))) | (refine kgf hb ?_ ?_ ?_; (· omega); (· first | go_size | omega | (simp only [World.size_alloc, World.size_setCell, World.size_drew]; omega)); (· (go_simp; first | done | rfl)))
  have hz := hb.size
  (try simp only [World.size_alloc, World.size_setCell, World.size_drew] at hz)
  have L : w.heap.size + 1 < u2.heap.size ∧ w.heap.size < u2.heap.size := by omega
  have hB' : w.grownBy u2 (some rb) := by
      refine World.grownBy.trans ?_ hb
      (repeat (first | with_reducible assumption | with_reducible exact World.grownBy.refl _ _ | (with_reducible refine grown_al ?_ _) | ((with_reducible refine grown_new ?_ ?_); rotate_left; (dsimp only; omega))))
  clear hz_0 fz_0 hz_1 fz_1 hx_3 hx_4 hlz hlx hnz0 hnz1 hkz1 hnz2 hkz2 hnx2 hkx2 hB hsz
  clear hb hz
  obtain ⟨⟨hz_0, fz_0⟩, ⟨hz_1, fz_1⟩, ⟨hx_3, hx_4⟩⟩ := T
  obtain ⟨hlz, hlx⟩ := L
  obtain ⟨hnz0, hnz1, hkz1, hnz2, hkz2⟩ := ap1f hlz
  have hnx2 : ¬ (w.heap.size = u2.heap.size + 1 + 1) := by omega
  have hkx2 : w.heap.size < u2.heap.size + 1 + 1 := by omega
  have hB := hB'; clear hB'
  have hsz := hB.size
  go_wp2
  refine bodyPost_ret (v := .tuple #[.agg #[.int .i64 al, .int .i64 ac], .int .i64 11]) (by simp [results, Tryz.results56, go_sem, hz_0, hz_1] <;> first | done | rfl) rfl (setEnd_err HF.out.1 HF.out.2.1 HF.out.2.2 (by decide) (Tur.of_grown (by (repeat (first | with_reducible assumption | with_reducible exact World.grownBy.refl _ _ | (with_reducible refine grown_al ?_ _) | ((with_reducible refine grown_new ?_ ?_); rotate_left; (dsimp only; omega))))) hlt hsz0))
set_option maxRecDepth 100000 in
set_option maxHeartbeats 8000000 in
theorem settD_Z (ak an al ac : Int) (ax : List UInt8) (zk zn zl zc : Int) (zx : List UInt8) (rs : List Tk) (wk wn wl wc : Int) (wx : List UInt8) (ssp : List Mk) (sv : Value) (sdn stn : Int) (sdb stb : Bool) (h0 : ak = 2) (h1 : ¬ zk = 4) (rb S0 : Nat) (w : World) (hR : Rd rb S0 w ⟨⟨ak, ax, an, al, ac⟩ :: ⟨zk, zx, zn, zl, zc⟩ :: rs, ssp, sv, sdn, sdb, stn, stb⟩) :
    Calls Tryz.prog 56 #[.pointer (some ⟨rb, 0, none⟩), tkV ⟨wk, wx, wn, wl, wc⟩, .pointer (some ⟨rb, 2, none⟩), .func (.func 27) #[] #[]] w (SetEnd rb S0 sv w (fun o => ⟨o.r, ssp, sv, o.n, true, stn, stb⟩) (settM sdb mayD ⟨wk, wx, wn, wl, wc⟩ (⟨ak, ax, an, al, ac⟩ :: ⟨zk, zx, zn, zl, zc⟩ :: rs))) := by
  have hlt := hR.lt
  have hsz0 := hR.sz
  have hkr : rb < w.heap.size := by omega
  have hrw : ¬ rb = w.heap.size := by omega
  have hrw1 : ¬ rb = w.heap.size + 1 := by omega
  have HLOW := Lib.hid (show ∀ g, sv.ownBlock = some g → g < w.heap.size from fun g h => (hR.row.2.lt g h).2)
  obtain ⟨O, hO⟩ : ∃ O, settM sdb mayD ⟨wk, wx, wn, wl, wc⟩ (⟨ak, ax, an, al, ac⟩ :: ⟨zk, zx, zn, zl, zc⟩ :: rs) = O := ⟨_, rfl⟩
  rw [hO]
  have HF := Lib.hid (show O.e = 11 ∧ O.li = zl ∧ O.co = zc from by rw [← hO]; simp [settM, h0, h1])
  clear hO
  have ht0 : (ak == 2) = true := by rw [h0]; rfl
  have HT0 := Lib.hid (fun W hR => (takei_c 2 rb S0 W ⟨⟨ak, ax, an, al, ac⟩ :: ⟨zk, zx, zn, zl, zc⟩ :: rs, ssp, sv, sdn, sdb, stn, stb⟩ ⟨ak, ax, an, al, ac⟩ (⟨zk, zx, zn, zl, zc⟩ :: rs) rfl hR).mono (fun e w' h => h.1 ht0))
  (try dsimp only [tkV] at HT0)
  have ht1 : (zk == 4) = false := by exact beq_eq_false_iff_ne.2 h1
  have HT1 := Lib.hid (fun W hR => (takei_c 4 rb S0 W ⟨⟨zk, zx, zn, zl, zc⟩ :: rs, ssp, sv, sdn, sdb, stn, stb⟩ ⟨zk, zx, zn, zl, zc⟩ (rs) rfl hR).mono (fun e w' h => h.2 ht1))
  (try dsimp only [tkV] at HT1)
  clear ht0 ht1
  unfold tkV
  (try dsimp only)
  generalize txB ax = aT at *
  generalize txB zx = zT at *
  generalize txB wx = wT at *
  go_enter Tryz.func56, Tryz.ntmps56
  go_wp2_with fail
  ((with_reducible refine (HT0.out _ (by (repeat (first | with_reducible assumption | (with_reducible refine Rd.al ?_ _) | ((with_reducible refine Rd.setl ?_ HLOW hkr ?_ _); rotate_left; (dsimp only; omega)))))).mono ?_); rintro _ u1 ⟨rfl, hR1, hb⟩)
  have T : CF u1 (w.heap.size + 1) 0 (.int .i64 0) ∧ CF u1 (w.heap.size + 1) 1 (.int .i64 0) ∧ CC u1 w.heap.size 3 4 (.int .i64 wl) (.int .i64 wc) := by
      refine ⟨⟨?_, ?_⟩, ⟨?_, ?_⟩, ⟨?_, ?_⟩⟩ <;> first | (refine kg hb ?_ ?_; (· omega); (· (go_simp; first | done | rfl))) | (refine kgf hb ?_ ?_ ?_; (· omega); (· first | go_size | omega | (simp only [World.size_alloc, World.size_setCell, World.size_drew]; omega)); (· (go_simp; first | done | rfl)))
  have hz := hb.size
  (try simp only [World.size_alloc, World.size_setCell, World.size_drew] at hz)
  have L : w.heap.size + 1 < u1.heap.size ∧ w.heap.size < u1.heap.size := by omega
  have hB' : w.grownBy u1 (some rb) := by
      refine World.grownBy.trans ?_ hb
      (repeat (first | with_reducible assumption | with_reducible exact World.grownBy.refl _ _ | (with_reducible refine grown_al ?_ _) | ((with_reducible refine grown_new ?_ ?_); rotate_left; (dsimp only; omega))))
  clear hb hz
  obtain ⟨⟨hz_0, fz_0⟩, ⟨hz_1, fz_1⟩, ⟨hx_3, hx_4⟩⟩ := T
  obtain ⟨hlz, hlx⟩ := L
  obtain ⟨hnz0, hnz1, hkz1, hnz2, hkz2⟩ := ap1f hlz
  have hnx2 : ¬ (w.heap.size = u1.heap.size + 1 + 1) := by omega
  have hkx2 : w.heap.size < u1.heap.size + 1 + 1 := by omega
  have hB := hB'; clear hB'
  have hsz := hB.size
  clear hR
  (try dsimp only at hR1)
  have hw1 : w.heap.size + 2 ≤ u1.heap.size := by omega
  have hv0 : ¬ (w.heap.size = u1.heap.size) := by omega
  have hy0 : ¬ (u1.heap.size = w.heap.size) := by omega
  have hv1 : ¬ (w.heap.size + 1 = u1.heap.size) := by omega
  have hy1 : ¬ (u1.heap.size = w.heap.size + 1) := by omega
  go_wp2_with fail
  ((with_reducible refine (HT1.out _ (by (repeat (first | with_reducible assumption | (with_reducible refine Rd.al ?_ _) | ((with_reducible refine Rd.setl ?_ HLOW hkr ?_ _); rotate_left; (dsimp only; omega)))))).mono ?_); rintro _ u2 ⟨rfl, hR2, hb⟩)
  have T : CF u2 (w.heap.size + 1) 0 (.int .i64 0) ∧ CF u2 (w.heap.size + 1) 1 (.int .i64 0) ∧ CC u2 w.heap.size 3 4 (.int .i64 wl) (.int .i64 wc) ∧ CC u2 u1.heap.size 2 3 (.int .i64 an) (.int .i64 al) ∧ u2.cell? ⟨u1.heap.size, 4, none⟩ = some (.int .i64 ac) := by
      refine ⟨⟨?_, ?_⟩, ⟨?_, ?_⟩, ⟨?_, ?_⟩, ⟨?_, ?_⟩, ?_⟩ <;> first | (refine kg hb ?_ ?_; (· omega); (· (go_simp; first | done | rfl))) | (refine kgf hb ?_ ?_ ?_; (· omega); (· first | go_size | omega | (simp only [World.size_alloc, World.size_setCell, World.size_drew]; omega)); (· (go_simp; first | done | rfl)))
  have hz := hb.size
  (try simp only [World.size_alloc, World.size_setCell, World.size_drew] at hz)
  have L : w.heap.size + 1 < u2.heap.size ∧ w.heap.size < u2.heap.size ∧ u1.heap.size < u2.heap.size := by omega
  have hB' : w.grownBy u2 (some rb) := by
      refine World.grownBy.trans ?_ hb
      (repeat (first | with_reducible assumption | with_reducible exact World.grownBy.refl _ _ | (with_reducible refine grown_al ?_ _) | ((with_reducible refine grown_new ?_ ?_); rotate_left; (dsimp only; omega))))
  clear hz_0 fz_0 hz_1 fz_1 hx_3 hx_4 hlz hlx hnz0 hnz1 hkz1 hnz2 hkz2 hnx2 hkx2 hB hsz
  clear hb hz
  obtain ⟨⟨hz_0, fz_0⟩, ⟨hz_1, fz_1⟩, ⟨hx_3, hx_4⟩, ⟨hf_2, hf_3⟩, hf_4⟩ := T
  obtain ⟨hlz, hlx, hlf⟩ := L
  obtain ⟨hnz0, hnz1, hkz1, hnz2, hkz2⟩ := ap1f hlz
  have hnx2 : ¬ (w.heap.size = u2.heap.size + 1 + 1) := by omega
  have hkx2 : w.heap.size < u2.heap.size + 1 + 1 := by omega
  obtain ⟨hnf0, hnf1, hkf1, hnf2, hkf2⟩ := ap0 hlf
  have hB := hB'; clear hB'
  have hsz := hB.size
  clear hR1
  (try dsimp only at hR2)
  go_wp2_with fail
  ((with_reducible refine (wrong_c rb S0 _ ⟨⟨zk, zx, zn, zl, zc⟩ :: rs, ssp, sv, sdn, sdb, stn, stb⟩ ⟨zk, zx, zn, zl, zc⟩ rs rfl (by (repeat (first | with_reducible assumption | (with_reducible refine Rd.al ?_ _) | ((with_reducible refine Rd.setl ?_ HLOW hkr ?_ _); rotate_left; (dsimp only; omega)))))).mono ?_); rintro _ u3 ⟨rfl, hb⟩)
  have T : CF u3 (w.heap.size + 1) 0 (.int .i64 0) ∧ CF u3 (w.heap.size + 1) 1 (.int .i64 0) ∧ CC u3 w.heap.size 3 4 (.int .i64 wl) (.int .i64 wc) ∧ CC u3 u1.heap.size 2 3 (.int .i64 an) (.int .i64 al) ∧ u3.cell? ⟨u1.heap.size, 4, none⟩ = some (.int .i64 ac) := by
      refine ⟨⟨?_, ?_⟩, ⟨?_, ?_⟩, ⟨?_, ?_⟩, ⟨?_, ?_⟩, ?_⟩ <;> first | (refine kg hb ?_ ?_; (· omega); (· (go_simp; first | done | rfl))) | (refine kgf hb ?_ ?_ ?_; (· omega); (· first | go_size | omega | (simp only [World.size_alloc, World.size_setCell, World.size_drew]; omega)); (· (go_simp; first | done | rfl)))
  have hz := hb.size
  (try simp only [World.size_alloc, World.size_setCell, World.size_drew] at hz)
  have L : w.heap.size + 1 < u3.heap.size ∧ w.heap.size < u3.heap.size ∧ u1.heap.size < u3.heap.size := by omega
  have hB' : w.grownBy u3 (some rb) := by
      refine World.grownBy.trans ?_ hb
      (repeat (first | with_reducible assumption | with_reducible exact World.grownBy.refl _ _ | (with_reducible refine grown_al ?_ _) | ((with_reducible refine grown_new ?_ ?_); rotate_left; (dsimp only; omega))))
  clear hz_0 fz_0 hz_1 fz_1 hx_3 hx_4 hf_2 hf_3 hf_4 hlz hlx hlf hnz0 hnz1 hkz1 hnz2 hkz2 hnx2 hkx2 hnf0 hnf1 hkf1 hnf2 hkf2 hB hsz
  clear hb hz
  obtain ⟨⟨hz_0, fz_0⟩, ⟨hz_1, fz_1⟩, ⟨hx_3, hx_4⟩, ⟨hf_2, hf_3⟩, hf_4⟩ := T
  obtain ⟨hlz, hlx, hlf⟩ := L
  obtain ⟨hnz0, hnz1, hkz1, hnz2, hkz2⟩ := ap1f hlz
  have hnx2 : ¬ (w.heap.size = u3.heap.size + 1 + 1) := by omega
  have hkx2 : w.heap.size < u3.heap.size + 1 + 1 := by omega
  obtain ⟨hnf0, hnf1, hkf1, hnf2, hkf2⟩ := ap0 hlf
  have hB := hB'; clear hB'
  have hsz := hB.size
  go_wp2
  refine bodyPost_ret (v := .tuple #[.agg #[.int .i64 zl, .int .i64 zc], .int .i64 11]) (by simp [results, Tryz.results56, go_sem, hz_0, hz_1] <;> first | done | rfl) rfl (setEnd_err HF.out.1 HF.out.2.1 HF.out.2.2 (by decide) (Tur.of_grown (by (repeat (first | with_reducible assumption | with_reducible exact World.grownBy.refl _ _ | (with_reducible refine grown_al ?_ _) | ((with_reducible refine grown_new ?_ ?_); rotate_left; (dsimp only; omega))))) hlt hsz0))
set_option maxRecDepth 100000 in
set_option maxHeartbeats 8000000 in
theorem settD_T (ak an al ac : Int) (ax : List UInt8) (zk zn zl zc : Int) (zx : List UInt8) (rs : List Tk) (wk wn wl wc : Int) (wx : List UInt8) (ssp : List Mk) (sv : Value) (sdn stn : Int) (sdb stb : Bool) (h0 : ak = 2) (h1 : zk = 4) (h2 : sdb = true) (rb S0 : Nat) (w : World) (hR : Rd rb S0 w ⟨⟨ak, ax, an, al, ac⟩ :: ⟨zk, zx, zn, zl, zc⟩ :: rs, ssp, sv, sdn, sdb, stn, stb⟩) :
    Calls Tryz.prog 56 #[.pointer (some ⟨rb, 0, none⟩), tkV ⟨wk, wx, wn, wl, wc⟩, .pointer (some ⟨rb, 2, none⟩), .func (.func 27) #[] #[]] w (SetEnd rb S0 sv w (fun o => ⟨o.r, ssp, sv, o.n, true, stn, stb⟩) (settM sdb mayD ⟨wk, wx, wn, wl, wc⟩ (⟨ak, ax, an, al, ac⟩ :: ⟨zk, zx, zn, zl, zc⟩ :: rs))) := by
  have hlt := hR.lt
  have hsz0 := hR.sz
  have hkr : rb < w.heap.size := by omega
  have hrw : ¬ rb = w.heap.size := by omega
  have hrw1 : ¬ rb = w.heap.size + 1 := by omega
  have HLOW := Lib.hid (show ∀ g, sv.ownBlock = some g → g < w.heap.size from fun g h => (hR.row.2.lt g h).2)
  obtain ⟨O, hO⟩ : ∃ O, settM sdb mayD ⟨wk, wx, wn, wl, wc⟩ (⟨ak, ax, an, al, ac⟩ :: ⟨zk, zx, zn, zl, zc⟩ :: rs) = O := ⟨_, rfl⟩
  rw [hO]
  have HF := Lib.hid (show O.e = 16 ∧ O.li = wl ∧ O.co = wc from by rw [← hO]; simp [settM, h0, h1, h2])
  clear hO
  have ht0 : (ak == 2) = true := by rw [h0]; rfl
  have HT0 := Lib.hid (fun W hR => (takei_c 2 rb S0 W ⟨⟨ak, ax, an, al, ac⟩ :: ⟨zk, zx, zn, zl, zc⟩ :: rs, ssp, sv, sdn, sdb, stn, stb⟩ ⟨ak, ax, an, al, ac⟩ (⟨zk, zx, zn, zl, zc⟩ :: rs) rfl hR).mono (fun e w' h => h.1 ht0))
  (try dsimp only [tkV] at HT0)
  have ht1 : (zk == 4) = true := by rw [h1]; rfl
  have HT1 := Lib.hid (fun W hR => (takei_c 4 rb S0 W ⟨⟨zk, zx, zn, zl, zc⟩ :: rs, ssp, sv, sdn, sdb, stn, stb⟩ ⟨zk, zx, zn, zl, zc⟩ (rs) rfl hR).mono (fun e w' h => h.1 ht1))
  (try dsimp only [tkV] at HT1)
  clear ht0 ht1
  unfold tkV
  (try dsimp only)
  generalize txB ax = aT at *
  generalize txB zx = zT at *
  generalize txB wx = wT at *
  go_enter Tryz.func56, Tryz.ntmps56
  go_wp2_with fail
  ((with_reducible refine (HT0.out _ (by (repeat (first | with_reducible assumption | (with_reducible refine Rd.al ?_ _) | ((with_reducible refine Rd.setl ?_ HLOW hkr ?_ _); rotate_left; (dsimp only; omega)))))).mono ?_); rintro _ u1 ⟨rfl, hR1, hb⟩)
  have T : CF u1 (w.heap.size + 1) 0 (.int .i64 0) ∧ CF u1 (w.heap.size + 1) 1 (.int .i64 0) ∧ CC u1 w.heap.size 3 4 (.int .i64 wl) (.int .i64 wc) := by
      refine ⟨⟨?_, ?_⟩, ⟨?_, ?_⟩, ⟨?_, ?_⟩⟩ <;> first | (refine kg hb ?_ ?_; (· omega); (· (go_simp; first | done | rfl))) | (refine kgf hb ?_ ?_ ?_; (· omega); (· first | go_size | omega | (simp only [World.size_alloc, World.size_setCell, World.size_drew]; omega)); (· (go_simp; first | done | rfl)))
  have hz := hb.size
  (try simp only [World.size_alloc, World.size_setCell, World.size_drew] at hz)
  have L : w.heap.size + 1 < u1.heap.size ∧ w.heap.size < u1.heap.size := by omega
  have hB' : w.grownBy u1 (some rb) := by
      refine World.grownBy.trans ?_ hb
      (repeat (first | with_reducible assumption | with_reducible exact World.grownBy.refl _ _ | (with_reducible refine grown_al ?_ _) | ((with_reducible refine grown_new ?_ ?_); rotate_left; (dsimp only; omega))))
  clear hb hz
  obtain ⟨⟨hz_0, fz_0⟩, ⟨hz_1, fz_1⟩, ⟨hx_3, hx_4⟩⟩ := T
  obtain ⟨hlz, hlx⟩ := L
  obtain ⟨hnz0, hnz1, hkz1, hnz2, hkz2⟩ := ap1f hlz
  have hnx2 : ¬ (w.heap.size = u1.heap.size + 1 + 1) := by omega
  have hkx2 : w.heap.size < u1.heap.size + 1 + 1 := by omega
  have hB := hB'; clear hB'
  have hsz := hB.size
  clear hR
  (try dsimp only at hR1)
  have hw1 : w.heap.size + 2 ≤ u1.heap.size := by omega
  have hv0 : ¬ (w.heap.size = u1.heap.size) := by omega
  have hy0 : ¬ (u1.heap.size = w.heap.size) := by omega
  have hv1 : ¬ (w.heap.size + 1 = u1.heap.size) := by omega
  have hy1 : ¬ (u1.heap.size = w.heap.size + 1) := by omega
  go_wp2_with fail
  ((with_reducible refine (HT1.out _ (by (repeat (first | with_reducible assumption | (with_reducible refine Rd.al ?_ _) | ((with_reducible refine Rd.setl ?_ HLOW hkr ?_ _); rotate_left; (dsimp only; omega)))))).mono ?_); rintro _ u2 ⟨rfl, hR2, hb⟩)
  have T : CF u2 (w.heap.size + 1) 0 (.int .i64 0) ∧ CF u2 (w.heap.size + 1) 1 (.int .i64 0) ∧ CC u2 w.heap.size 3 4 (.int .i64 wl) (.int .i64 wc) ∧ CC u2 u1.heap.size 2 3 (.int .i64 an) (.int .i64 al) ∧ u2.cell? ⟨u1.heap.size, 4, none⟩ = some (.int .i64 ac) := by
      refine ⟨⟨?_, ?_⟩, ⟨?_, ?_⟩, ⟨?_, ?_⟩, ⟨?_, ?_⟩, ?_⟩ <;> first | (refine kg hb ?_ ?_; (· omega); (· (go_simp; first | done | rfl))) | (refine kgf hb ?_ ?_ ?_; (· omega); (· first | go_size | omega | (simp only [World.size_alloc, World.size_setCell, World.size_drew]; omega)); (· (go_simp; first | done | rfl)))
  have hz := hb.size
  (try simp only [World.size_alloc, World.size_setCell, World.size_drew] at hz)
  have L : w.heap.size + 1 < u2.heap.size ∧ w.heap.size < u2.heap.size ∧ u1.heap.size < u2.heap.size := by omega
  have hB' : w.grownBy u2 (some rb) := by
      refine World.grownBy.trans ?_ hb
      (repeat (first | with_reducible assumption | with_reducible exact World.grownBy.refl _ _ | (with_reducible refine grown_al ?_ _) | ((with_reducible refine grown_new ?_ ?_); rotate_left; (dsimp only; omega))))
  clear hz_0 fz_0 hz_1 fz_1 hx_3 hx_4 hlz hlx hnz0 hnz1 hkz1 hnz2 hkz2 hnx2 hkx2 hB hsz
  clear hb hz
  obtain ⟨⟨hz_0, fz_0⟩, ⟨hz_1, fz_1⟩, ⟨hx_3, hx_4⟩, ⟨hf_2, hf_3⟩, hf_4⟩ := T
  obtain ⟨hlz, hlx, hlf⟩ := L
  obtain ⟨hnz0, hnz1, hkz1, hnz2, hkz2⟩ := ap1f hlz
  have hnx2 : ¬ (w.heap.size = u2.heap.size + 1 + 1) := by omega
  have hkx2 : w.heap.size < u2.heap.size + 1 + 1 := by omega
  obtain ⟨hnf0, hnf1, hkf1, hnf2, hkf2⟩ := ap0 hlf
  have hB := hB'; clear hB'
  have hsz := hB.size
  clear hR1
  (try dsimp only at hR2)
  have hku : rb < u2.heap.size := by omega
  have hru : ¬ rb = u2.heap.size := by omega
  have hto := hR2.c3
  have hnn := hR2.c2
  have hf1 := hR2.fr 2 (by omega)
  have hf2 := hR2.fr 3 (by omega)
  subst h2
  (try dsimp only at hto)
  go_wp2
  refine bodyPost_ret (v := .tuple #[.agg #[.int .i64 wl, .int .i64 wc], .int .i64 16]) (by simp [results, Tryz.results56, go_sem, hz_0, hz_1] <;> first | done | rfl) rfl (setEnd_err HF.out.1 HF.out.2.1 HF.out.2.2 (by decide) (Tur.of_grown (by (repeat (first | with_reducible assumption | with_reducible exact World.grownBy.refl _ _ | (with_reducible refine grown_al ?_ _) | ((with_reducible refine grown_new ?_ ?_); rotate_left; (dsimp only; omega))))) hlt hsz0))
set_option maxRecDepth 100000 in
set_option maxHeartbeats 8000000 in
theorem settD_R (ak an al ac : Int) (ax : List UInt8) (zk zn zl zc : Int) (zx : List UInt8) (rs : List Tk) (wk wn wl wc : Int) (wx : List UInt8) (ssp : List Mk) (sv : Value) (sdn stn : Int) (sdb stb : Bool) (h0 : ak = 2) (h1 : zk = 4) (h2 : sdb = false) (h3 : mayD an = false) (rb S0 : Nat) (w : World) (hR : Rd rb S0 w ⟨⟨ak, ax, an, al, ac⟩ :: ⟨zk, zx, zn, zl, zc⟩ :: rs, ssp, sv, sdn, sdb, stn, stb⟩) :
    Calls Tryz.prog 56 #[.pointer (some ⟨rb, 0, none⟩), tkV ⟨wk, wx, wn, wl, wc⟩, .pointer (some ⟨rb, 2, none⟩), .func (.func 27) #[] #[]] w (SetEnd rb S0 sv w (fun o => ⟨o.r, ssp, sv, o.n, true, stn, stb⟩) (settM sdb mayD ⟨wk, wx, wn, wl, wc⟩ (⟨ak, ax, an, al, ac⟩ :: ⟨zk, zx, zn, zl, zc⟩ :: rs))) := by
  have hlt := hR.lt
  have hsz0 := hR.sz
  have hkr : rb < w.heap.size := by omega
  have hrw : ¬ rb = w.heap.size := by omega
  have hrw1 : ¬ rb = w.heap.size + 1 := by omega
  have HLOW := Lib.hid (show ∀ g, sv.ownBlock = some g → g < w.heap.size from fun g h => (hR.row.2.lt g h).2)
  obtain ⟨O, hO⟩ : ∃ O, settM sdb mayD ⟨wk, wx, wn, wl, wc⟩ (⟨ak, ax, an, al, ac⟩ :: ⟨zk, zx, zn, zl, zc⟩ :: rs) = O := ⟨_, rfl⟩
  rw [hO]
  have HF := Lib.hid (show O.e = 10 ∧ O.li = al ∧ O.co = ac from by rw [← hO]; simp [settM, h0, h1, h2, h3])
  clear hO
  have ht0 : (ak == 2) = true := by rw [h0]; rfl
  have HT0 := Lib.hid (fun W hR => (takei_c 2 rb S0 W ⟨⟨ak, ax, an, al, ac⟩ :: ⟨zk, zx, zn, zl, zc⟩ :: rs, ssp, sv, sdn, sdb, stn, stb⟩ ⟨ak, ax, an, al, ac⟩ (⟨zk, zx, zn, zl, zc⟩ :: rs) rfl hR).mono (fun e w' h => h.1 ht0))
  (try dsimp only [tkV] at HT0)
  have ht1 : (zk == 4) = true := by rw [h1]; rfl
  have HT1 := Lib.hid (fun W hR => (takei_c 4 rb S0 W ⟨⟨zk, zx, zn, zl, zc⟩ :: rs, ssp, sv, sdn, sdb, stn, stb⟩ ⟨zk, zx, zn, zl, zc⟩ (rs) rfl hR).mono (fun e w' h => h.1 ht1))
  (try dsimp only [tkV] at HT1)
  clear ht0 ht1
  unfold tkV
  (try dsimp only)
  generalize txB ax = aT at *
  generalize txB zx = zT at *
  generalize txB wx = wT at *
  go_enter Tryz.func56, Tryz.ntmps56
  go_wp2_with fail
  ((with_reducible refine (HT0.out _ (by (repeat (first | with_reducible assumption | (with_reducible refine Rd.al ?_ _) | ((with_reducible refine Rd.setl ?_ HLOW hkr ?_ _); rotate_left; (dsimp only; omega)))))).mono ?_); rintro _ u1 ⟨rfl, hR1, hb⟩)
  have T : CF u1 (w.heap.size + 1) 0 (.int .i64 0) ∧ CF u1 (w.heap.size + 1) 1 (.int .i64 0) ∧ CC u1 w.heap.size 3 4 (.int .i64 wl) (.int .i64 wc) := by
      refine ⟨⟨?_, ?_⟩, ⟨?_, ?_⟩, ⟨?_, ?_⟩⟩ <;> first | (refine kg hb ?_ ?_; (· omega); (· (go_simp; first | done | rfl))) | (refine kgf hb ?_ ?_ ?_; (· omega); (· first | go_size | omega | (simp only [World.size_alloc, World.size_setCell, World.size_drew]; omega)); (· (go_simp; first | done | rfl)))
  have hz := hb.size
  (try simp only [World.size_alloc, World.size_setCell, World.size_drew] at hz)
  have L : w.heap.size + 1 < u1.heap.size ∧ w.heap.size < u1.heap.size := by omega
  have hB' : w.grownBy u1 (some rb) := by
      refine World.grownBy.trans ?_ hb
      (repeat (first | with_reducible assumption | with_reducible exact World.grownBy.refl _ _ | (with_reducible refine grown_al ?_ _) | ((with_reducible refine grown_new ?_ ?_); rotate_left; (dsimp only; omega))))
  clear hb hz
  obtain ⟨⟨hz_0, fz_0⟩, ⟨hz_1, fz_1⟩, ⟨hx_3, hx_4⟩⟩ := T
  obtain ⟨hlz, hlx⟩ := L
  obtain ⟨hnz0, hnz1, hkz1, hnz2, hkz2⟩ := ap1f hlz
  have hnx2 : ¬ (w.heap.size = u1.heap.size + 1 + 1) := by omega
  have hkx2 : w.heap.size < u1.heap.size + 1 + 1 := by omega
  have hB := hB'; clear hB'
  have hsz := hB.size
  clear hR
  (try dsimp only at hR1)
  have hw1 : w.heap.size + 2 ≤ u1.heap.size := by omega
  have hv0 : ¬ (w.heap.size = u1.heap.size) := by omega
  have hy0 : ¬ (u1.heap.size = w.heap.size) := by omega
  have hv1 : ¬ (w.heap.size + 1 = u1.heap.size) := by omega
  have hy1 : ¬ (u1.heap.size = w.heap.size + 1) := by omega
  go_wp2_with fail
  ((with_reducible refine (HT1.out _ (by (repeat (first | with_reducible assumption | (with_reducible refine Rd.al ?_ _) | ((with_reducible refine Rd.setl ?_ HLOW hkr ?_ _); rotate_left; (dsimp only; omega)))))).mono ?_); rintro _ u2 ⟨rfl, hR2, hb⟩)
  have T : CF u2 (w.heap.size + 1) 0 (.int .i64 0) ∧ CF u2 (w.heap.size + 1) 1 (.int .i64 0) ∧ CC u2 w.heap.size 3 4 (.int .i64 wl) (.int .i64 wc) ∧ CC u2 u1.heap.size 2 3 (.int .i64 an) (.int .i64 al) ∧ u2.cell? ⟨u1.heap.size, 4, none⟩ = some (.int .i64 ac) := by
      refine ⟨⟨?_, ?_⟩, ⟨?_, ?_⟩, ⟨?_, ?_⟩, ⟨?_, ?_⟩, ?_⟩ <;> first | (refine kg hb ?_ ?_; (· omega); (· (go_simp; first | done | rfl))) | (refine kgf hb ?_ ?_ ?_; (· omega); (· first | go_size | omega | (simp only [World.size_alloc, World.size_setCell, World.size_drew]; omega)); (· (go_simp; first | done | rfl)))
  have hz := hb.size
  (try simp only [World.size_alloc, World.size_setCell, World.size_drew] at hz)
  have L : w.heap.size + 1 < u2.heap.size ∧ w.heap.size < u2.heap.size ∧ u1.heap.size < u2.heap.size := by omega
  have hB' : w.grownBy u2 (some rb) := by
      refine World.grownBy.trans ?_ hb
      (repeat (first | with_reducible assumption | with_reducible exact World.grownBy.refl _ _ | (with_reducible refine grown_al ?_ _) | ((with_reducible refine grown_new ?_ ?_); rotate_left; (dsimp only; omega))))
  clear hz_0 fz_0 hz_1 fz_1 hx_3 hx_4 hlz hlx hnz0 hnz1 hkz1 hnz2 hkz2 hnx2 hkx2 hB hsz
  clear hb hz
  obtain ⟨⟨hz_0, fz_0⟩, ⟨hz_1, fz_1⟩, ⟨hx_3, hx_4⟩, ⟨hf_2, hf_3⟩, hf_4⟩ := T
  obtain ⟨hlz, hlx, hlf⟩ := L
  obtain ⟨hnz0, hnz1, hkz1, hnz2, hkz2⟩ := ap1f hlz
  have hnx2 : ¬ (w.heap.size = u2.heap.size + 1 + 1) := by omega
  have hkx2 : w.heap.size < u2.heap.size + 1 + 1 := by omega
  obtain ⟨hnf0, hnf1, hkf1, hnf2, hkf2⟩ := ap0 hlf
  have hB := hB'; clear hB'
  have hsz := hB.size
  clear hR1
  (try dsimp only at hR2)
  have hku : rb < u2.heap.size := by omega
  have hru : ¬ rb = u2.heap.size := by omega
  have hto := hR2.c3
  have hnn := hR2.c2
  have hf1 := hR2.fr 2 (by omega)
  have hf2 := hR2.fr 3 (by omega)
  subst h2
  (try dsimp only at hto)
  have HM := Lib.hid (mayd_c an)
  rw [h3] at HM
  have hrg : ¬ rb = w.heap.size + 1 := by omega
  have hn_0 := hnn; have fn_0 := hf1; have ho_0 := hto; have fo_0 := hf2; clear hnn hf1 hto hf2
  have HG := Lib.hid hB
  have HR := Lib.hid hR2
  clear hR2
  have hbr : Below u2.heap.size u2 u2 := Below.refl _ _
  go_wp2_with fail
  ((with_reducible refine (HM.out _).mono ?_); rintro _ y ⟨rfl, hb⟩)
  have T : CF y (w.heap.size + 1) 0 (.int .i64 0) ∧ CF y (w.heap.size + 1) 1 (.int .i64 0) ∧ CC y w.heap.size 3 4 (.int .i64 wl) (.int .i64 wc) ∧ CC y u1.heap.size 2 3 (.int .i64 an) (.int .i64 al) ∧ y.cell? ⟨u1.heap.size, 4, none⟩ = some (.int .i64 ac) ∧ CF y rb 2 (.int .i64 sdn) ∧ CF y rb 3 (.bool false) := by
      refine ⟨⟨?_, ?_⟩, ⟨?_, ?_⟩, ⟨?_, ?_⟩, ⟨?_, ?_⟩, ?_, ⟨?_, ?_⟩, ⟨?_, ?_⟩⟩ <;> first | (refine kc hb ?_ <;> (go_simp; first | done | rfl)) | (refine kfz hb ?_ ?_ <;> first | (go_size; done) | (go_simp; done))
  have hz := hb.size
  (try simp only [World.size_alloc, World.size_setCell, World.size_drew] at hz)
  have L : w.heap.size + 1 < y.heap.size ∧ w.heap.size < y.heap.size ∧ u1.heap.size < y.heap.size ∧ rb < y.heap.size ∧ rb < y.heap.size := by omega
  have hB' : Below u2.heap.size u2 y := by
      refine kb ?_ hb
      go_grown
  clear hz_0 fz_0 hz_1 fz_1 hx_3 hx_4 hf_2 hf_3 hf_4 hlz hlx hlf hnz0 hnz1 hkz1 hnz2 hkz2 hnx2 hkx2 hnf0 hnf1 hkf1 hnf2 hkf2 hB hsz
  clear hb hz
  obtain ⟨⟨hz_0, fz_0⟩, ⟨hz_1, fz_1⟩, ⟨hx_3, hx_4⟩, ⟨hf_2, hf_3⟩, hf_4, ⟨hn_0, fn_0⟩, ⟨ho_0, fo_0⟩⟩ := T
  obtain ⟨hlz, hlx, hlf, hln, hlo⟩ := L
  obtain ⟨hnz0, hnz1, hkz1, hnz2, hkz2⟩ := ap1f hlz
  have hnx2 : ¬ (w.heap.size = y.heap.size + 1 + 1) := by omega
  have hkx2 : w.heap.size < y.heap.size + 1 + 1 := by omega
  obtain ⟨hnf0, hnf1, hkf1, hnf2, hkf2⟩ := ap0 hlf
  obtain ⟨hnn0, hnn1, hkn1, hnn2, hkn2⟩ := ap0 hln
  have hB := hB'; clear hB'
  have hsz := hB.size
  have HT := Lib.hid ((Tur.of_grown (v := sv) HG.out hlt hsz0).trans (Tur.of_below hB hlt HR.out.sz))
  have HRy := Lib.hid (HR.out.on hB)
  go_wp2
  refine bodyPost_ret (v := .tuple #[.agg #[.int .i64 al, .int .i64 ac], .int .i64 10]) (by simp [results, Tryz.results56, go_sem, hz_0, hz_1] <;> first | done | rfl) rfl (setEnd_err HF.out.1 HF.out.2.1 HF.out.2.2 (by decide) ((HT.out.setn hlt hsz0 (by dsimp only; omega) _).setn hlt hsz0 (by dsimp only; omega) _))
set_option maxRecDepth 100000 in
set_option maxHeartbeats 8000000 in
theorem settD_O (ak an al ac : Int) (ax : List UInt8) (zk zn zl zc : Int) (zx : List UInt8) (rs : List Tk) (wk wn wl wc : Int) (wx : List UInt8) (ssp : List Mk) (sv : Value) (sdn stn : Int) (sdb stb : Bool) (h0 : ak = 2) (h1 : zk = 4) (h2 : sdb = false) (h3 : mayD an = true) (rb S0 : Nat) (w : World) (hR : Rd rb S0 w ⟨⟨ak, ax, an, al, ac⟩ :: ⟨zk, zx, zn, zl, zc⟩ :: rs, ssp, sv, sdn, sdb, stn, stb⟩) :
    Calls Tryz.prog 56 #[.pointer (some ⟨rb, 0, none⟩), tkV ⟨wk, wx, wn, wl, wc⟩, .pointer (some ⟨rb, 2, none⟩), .func (.func 27) #[] #[]] w (SetEnd rb S0 sv w (fun o => ⟨o.r, ssp, sv, o.n, true, stn, stb⟩) (settM sdb mayD ⟨wk, wx, wn, wl, wc⟩ (⟨ak, ax, an, al, ac⟩ :: ⟨zk, zx, zn, zl, zc⟩ :: rs))) := by
  have hlt := hR.lt
  have hsz0 := hR.sz
  have hkr : rb < w.heap.size := by omega
  have hrw : ¬ rb = w.heap.size := by omega
  have hrw1 : ¬ rb = w.heap.size + 1 := by omega
  have HLOW := Lib.hid (show ∀ g, sv.ownBlock = some g → g < w.heap.size from fun g h => (hR.row.2.lt g h).2)
  obtain ⟨O, hO⟩ : ∃ O, settM sdb mayD ⟨wk, wx, wn, wl, wc⟩ (⟨ak, ax, an, al, ac⟩ :: ⟨zk, zx, zn, zl, zc⟩ :: rs) = O := ⟨_, rfl⟩
  rw [hO]
  have HF := Lib.hid (show O.e = 0 ∧ O.n = an ∧ O.r = rs from by rw [← hO]; simp [settM, h0, h1, h2, h3])
  clear hO
  have ht0 : (ak == 2) = true := by rw [h0]; rfl
  have HT0 := Lib.hid (fun W hR => (takei_c 2 rb S0 W ⟨⟨ak, ax, an, al, ac⟩ :: ⟨zk, zx, zn, zl, zc⟩ :: rs, ssp, sv, sdn, sdb, stn, stb⟩ ⟨ak, ax, an, al, ac⟩ (⟨zk, zx, zn, zl, zc⟩ :: rs) rfl hR).mono (fun e w' h => h.1 ht0))
  (try dsimp only [tkV] at HT0)
  have ht1 : (zk == 4) = true := by rw [h1]; rfl
  have HT1 := Lib.hid (fun W hR => (takei_c 4 rb S0 W ⟨⟨zk, zx, zn, zl, zc⟩ :: rs, ssp, sv, sdn, sdb, stn, stb⟩ ⟨zk, zx, zn, zl, zc⟩ (rs) rfl hR).mono (fun e w' h => h.1 ht1))
  (try dsimp only [tkV] at HT1)
  clear ht0 ht1
  unfold tkV
  (try dsimp only)
  generalize txB ax = aT at *
  generalize txB zx = zT at *
  generalize txB wx = wT at *
  go_enter Tryz.func56, Tryz.ntmps56
  go_wp2_with fail
  ((with_reducible refine (HT0.out _ (by (repeat (first | with_reducible assumption | (with_reducible refine Rd.al ?_ _) | ((with_reducible refine Rd.setl ?_ HLOW hkr ?_ _); rotate_left; (dsimp only; omega)))))).mono ?_); rintro _ u1 ⟨rfl, hR1, hb⟩)
  have T : CF u1 (w.heap.size + 1) 0 (.int .i64 0) ∧ CF u1 (w.heap.size + 1) 1 (.int .i64 0) ∧ CC u1 w.heap.size 3 4 (.int .i64 wl) (.int .i64 wc) := by
      refine ⟨⟨?_, ?_⟩, ⟨?_, ?_⟩, ⟨?_, ?_⟩⟩ <;> first | (refine kg hb ?_ ?_; (· omega); (· (go_simp; first | done | rfl))) | (refine kgf hb ?_ ?_ ?_; (· omega); (· first | go_size | omega | (simp only [World.size_alloc, World.size_setCell, World.size_drew]; omega)); (· (go_simp; first | done | rfl)))
  have hz := hb.size
  (try simp only [World.size_alloc, World.size_setCell, World.size_drew] at hz)
  have L : w.heap.size + 1 < u1.heap.size ∧ w.heap.size < u1.heap.size := by omega
  have hB' : w.grownBy u1 (some rb) := by
      refine World.grownBy.trans ?_ hb
      (repeat (first | with_reducible assumption | with_reducible exact World.grownBy.refl _ _ | (with_reducible refine grown_al ?_ _) | ((with_reducible refine grown_new ?_ ?_); rotate_left; (dsimp only; omega))))
  clear hb hz
  obtain ⟨⟨hz_0, fz_0⟩, ⟨hz_1, fz_1⟩, ⟨hx_3, hx_4⟩⟩ := T
  obtain ⟨hlz, hlx⟩ := L
  obtain ⟨hnz0, hnz1, hkz1, hnz2, hkz2⟩ := ap1f hlz
  have hnx2 : ¬ (w.heap.size = u1.heap.size + 1 + 1) := by omega
  have hkx2 : w.heap.size < u1.heap.size + 1 + 1 := by omega
  have hB := hB'; clear hB'
  have hsz := hB.size
  clear hR
  (try dsimp only at hR1)
  have hw1 : w.heap.size + 2 ≤ u1.heap.size := by omega
  have hv0 : ¬ (w.heap.size = u1.heap.size) := by omega
  have hy0 : ¬ (u1.heap.size = w.heap.size) := by omega
  have hv1 : ¬ (w.heap.size + 1 = u1.heap.size) := by omega
  have hy1 : ¬ (u1.heap.size = w.heap.size + 1) := by omega
  go_wp2_with fail
  ((with_reducible refine (HT1.out _ (by (repeat (first | with_reducible assumption | (with_reducible refine Rd.al ?_ _) | ((with_reducible refine Rd.setl ?_ HLOW hkr ?_ _); rotate_left; (dsimp only; omega)))))).mono ?_); rintro _ u2 ⟨rfl, hR2, hb⟩)
  have T : CF u2 (w.heap.size + 1) 0 (.int .i64 0) ∧ CF u2 (w.heap.size + 1) 1 (.int .i64 0) ∧ CC u2 w.heap.size 3 4 (.int .i64 wl) (.int .i64 wc) ∧ CC u2 u1.heap.size 2 3 (.int .i64 an) (.int .i64 al) ∧ u2.cell? ⟨u1.heap.size, 4, none⟩ = some (.int .i64 ac) := by
      refine ⟨⟨?_, ?_⟩, ⟨?_, ?_⟩, ⟨?_, ?_⟩, ⟨?_, ?_⟩, ?_⟩ <;> first | (refine kg hb ?_ ?_; (· omega); (· (go_simp; first | done | rfl))) | (refine kgf hb ?_ ?_ ?_; (· omega); (· first | go_size | omega | (simp only [World.size_alloc, World.size_setCell, World.size_drew]; omega)); (· (go_simp; first | done | rfl)))
  have hz := hb.size
  (try simp only [World.size_alloc, World.size_setCell, World.size_drew] at hz)
  have L : w.heap.size + 1 < u2.heap.size ∧ w.heap.size < u2.heap.size ∧ u1.heap.size < u2.heap.size := by omega
  have hB' : w.grownBy u2 (some rb) := by
      refine World.grownBy.trans ?_ hb
      (repeat (first | with_reducible assumption | with_reducible exact World.grownBy.refl _ _ | (with_reducible refine grown_al ?_ _) | ((with_reducible refine grown_new ?_ ?_); rotate_left; (dsimp only; omega))))
  clear hz_0 fz_0 hz_1 fz_1 hx_3 hx_4 hlz hlx hnz0 hnz1 hkz1 hnz2 hkz2 hnx2 hkx2 hB hsz
  clear hb hz
  obtain ⟨⟨hz_0, fz_0⟩, ⟨hz_1, fz_1⟩, ⟨hx_3, hx_4⟩, ⟨hf_2, hf_3⟩, hf_4⟩ := T
  obtain ⟨hlz, hlx, hlf⟩ := L
  obtain ⟨hnz0, hnz1, hkz1, hnz2, hkz2⟩ := ap1f hlz
  have hnx2 : ¬ (w.heap.size = u2.heap.size + 1 + 1) := by omega
  have hkx2 : w.heap.size < u2.heap.size + 1 + 1 := by omega
  obtain ⟨hnf0, hnf1, hkf1, hnf2, hkf2⟩ := ap0 hlf
  have hB := hB'; clear hB'
  have hsz := hB.size
  clear hR1
  (try dsimp only at hR2)
  have hku : rb < u2.heap.size := by omega
  have hru : ¬ rb = u2.heap.size := by omega
  have hto := hR2.c3
  have hnn := hR2.c2
  have hf1 := hR2.fr 2 (by omega)
  have hf2 := hR2.fr 3 (by omega)
  subst h2
  (try dsimp only at hto)
  have HM := Lib.hid (mayd_c an)
  rw [h3] at HM
  have hrg : ¬ rb = w.heap.size + 1 := by omega
  have hn_0 := hnn; have fn_0 := hf1; have ho_0 := hto; have fo_0 := hf2; clear hnn hf1 hto hf2
  have HG := Lib.hid hB
  have HR := Lib.hid hR2
  clear hR2
  have hbr : Below u2.heap.size u2 u2 := Below.refl _ _
  go_wp2_with fail
  ((with_reducible refine (HM.out _).mono ?_); rintro _ y ⟨rfl, hb⟩)
  have T : CF y (w.heap.size + 1) 0 (.int .i64 0) ∧ CF y (w.heap.size + 1) 1 (.int .i64 0) ∧ CC y w.heap.size 3 4 (.int .i64 wl) (.int .i64 wc) ∧ CC y u1.heap.size 2 3 (.int .i64 an) (.int .i64 al) ∧ y.cell? ⟨u1.heap.size, 4, none⟩ = some (.int .i64 ac) ∧ CF y rb 2 (.int .i64 sdn) ∧ CF y rb 3 (.bool false) := by
      refine ⟨⟨?_, ?_⟩, ⟨?_, ?_⟩, ⟨?_, ?_⟩, ⟨?_, ?_⟩, ?_, ⟨?_, ?_⟩, ⟨?_, ?_⟩⟩ <;> first | (refine kc hb ?_ <;> (go_simp; first | done | rfl)) | (refine kfz hb ?_ ?_ <;> first | (go_size; done) | (go_simp; done))
  have hz := hb.size
  (try simp only [World.size_alloc, World.size_setCell, World.size_drew] at hz)
  have L : w.heap.size + 1 < y.heap.size ∧ w.heap.size < y.heap.size ∧ u1.heap.size < y.heap.size ∧ rb < y.heap.size ∧ rb < y.heap.size := by omega
  have hB' : Below u2.heap.size u2 y := by
      refine kb ?_ hb
      go_grown
  clear hz_0 fz_0 hz_1 fz_1 hx_3 hx_4 hf_2 hf_3 hf_4 hlz hlx hlf hnz0 hnz1 hkz1 hnz2 hkz2 hnx2 hkx2 hnf0 hnf1 hkf1 hnf2 hkf2 hB hsz
  clear hb hz
  obtain ⟨⟨hz_0, fz_0⟩, ⟨hz_1, fz_1⟩, ⟨hx_3, hx_4⟩, ⟨hf_2, hf_3⟩, hf_4, ⟨hn_0, fn_0⟩, ⟨ho_0, fo_0⟩⟩ := T
  obtain ⟨hlz, hlx, hlf, hln, hlo⟩ := L
  obtain ⟨hnz0, hnz1, hkz1, hnz2, hkz2⟩ := ap1f hlz
  have hnx2 : ¬ (w.heap.size = y.heap.size + 1 + 1) := by omega
  have hkx2 : w.heap.size < y.heap.size + 1 + 1 := by omega
  obtain ⟨hnf0, hnf1, hkf1, hnf2, hkf2⟩ := ap0 hlf
  obtain ⟨hnn0, hnn1, hkn1, hnn2, hkn2⟩ := ap0 hln
  have hB := hB'; clear hB'
  have hsz := hB.size
  have HT := Lib.hid ((Tur.of_grown (v := sv) HG.out hlt hsz0).trans (Tur.of_below hB hlt HR.out.sz))
  have HRy := Lib.hid (HR.out.on hB)
  go_wp2
  refine bodyPost_ret (v := .tuple #[.agg #[.int .i64 0, .int .i64 0], .int .i64 0]) (by simp [results, Tryz.results56, go_sem, hz_0, hz_1] <;> first | done | rfl) rfl (setEnd_ok HF.out.1 ?_ ((((HT.out.set _ _).set _ _).setn hlt hsz0 (by dsimp only; omega) _).setn hlt hsz0 (by dsimp only; omega) _))
  rw [HF.out.2.1, HF.out.2.2]
  exact ((HRy.out.setD an true).setl HLOW hkr (by dsimp only; omega) _).setl HLOW hkr (by dsimp only; omega) _
set_option maxRecDepth 100000 in
set_option maxHeartbeats 8000000 in
theorem settT_A (ak an al ac : Int) (ax : List UInt8) (rs : List Tk) (wk wn wl wc : Int) (wx : List UInt8) (ssp : List Mk) (sv : Value) (sdn stn : Int) (sdb stb : Bool) (h0 : ¬ ak = 2) (rb S0 : Nat) (w : World) (hR : Rd rb S0 w ⟨⟨ak, ax, an, al, ac⟩ :: rs, ssp, sv, sdn, sdb, stn, stb⟩) :
    Calls Tryz.prog 56 #[.pointer (some ⟨rb, 0, none⟩), tkV ⟨wk, wx, wn, wl, wc⟩, .pointer (some ⟨rb, 4, none⟩), .func (.func 28) #[] #[]] w (SetEnd rb S0 sv w (fun o => ⟨o.r, ssp, sv, sdn, sdb, o.n, true⟩) (settM stb mayT ⟨wk, wx, wn, wl, wc⟩ (⟨ak, ax, an, al, ac⟩ :: rs))) := by
  have hlt := hR.lt
  have hsz0 := hR.sz
  have hkr : rb < w.heap.size := by omega
  have hrw : ¬ rb = w.heap.size := by omega
  have hrw1 : ¬ rb = w.heap.size + 1 := by omega
  have HLOW := Lib.hid (show ∀ g, sv.ownBlock = some g → g < w.heap.size from fun g h => (hR.row.2.lt g h).2)
  obtain ⟨O, hO⟩ : ∃ O, settM stb mayT ⟨wk, wx, wn, wl, wc⟩ (⟨ak, ax, an, al, ac⟩ :: rs) = O := ⟨_, rfl⟩
  rw [hO]
  have HF := Lib.hid (show O.e = 11 ∧ O.li = al ∧ O.co = ac from by rw [← hO]; simp [settM, h0])
  clear hO
  have ht0 : (ak == 2) = false := by exact beq_eq_false_iff_ne.2 h0
  have HT0 := Lib.hid (fun W hR => (takei_c 2 rb S0 W ⟨⟨ak, ax, an, al, ac⟩ :: rs, ssp, sv, sdn, sdb, stn, stb⟩ ⟨ak, ax, an, al, ac⟩ (rs) rfl hR).mono (fun e w' h => h.2 ht0))
  (try dsimp only [tkV] at HT0)
  clear ht0
  unfold tkV
  (try dsimp only)
  generalize txB ax = aT at *
  generalize txB wx = wT at *
  go_enter Tryz.func56, Tryz.ntmps56
  go_wp2_with fail
  ((with_reducible refine (HT0.out _ (by (repeat (first | with_reducible assumption | (with_reducible refine Rd.al ?_ _) | ((with_reducible refine Rd.setl ?_ HLOW hkr ?_ _); rotate_left; (dsimp only; omega)))))).mono ?_); rintro _ u1 ⟨rfl, hR1, hb⟩)
  have T : CF u1 (w.heap.size + 1) 0 (.int .i64 0) ∧ CF u1 (w.heap.size + 1) 1 (.int .i64 0) ∧ CC u1 w.heap.size 3 4 (.int .i64 wl) (.int .i64 wc) := by
      refine ⟨⟨?_, ?_⟩, ⟨?_, ?_⟩, ⟨?_, ?_⟩⟩ <;> first | (refine kg hb ?_ ?_; (· omega); (· (go_simp; first | done | rfl))) | (refine kgf hb ?_ ?_ ?_; (· omega); (· first | go_size | omega | (simp only [World.size_alloc, World.size_setCell, World.size_drew]; omega)); (· (go_simp; first | done | rfl)))
  have hz := hb.size
  (try simp only [World.size_alloc, World.size_setCell, World.size_drew] at hz)
  have L : w.heap.size + 1 < u1.heap.size ∧ w.heap.size < u1.heap.size := by omega
  have hB' : w.grownBy u1 (some rb) := by
      refine World.grownBy.trans ?_ hb
      (repeat (first | with_reducible assumption | with_reducible exact World.grownBy.refl _ _ | (with_reducible refine grown_al ?_ _) | ((with_reducible refine grown_new ?_ ?_); rotate_left; (dsimp only; omega))))
  clear hb hz
  obtain ⟨⟨hz_0, fz_0⟩, ⟨hz_1, fz_1⟩, ⟨hx_3, hx_4⟩⟩ := T
  obtain ⟨hlz, hlx⟩ := L
  obtain ⟨hnz0, hnz1, hkz1, hnz2, hkz2⟩ := ap1f hlz
  have hnx2 : ¬ (w.heap.size = u1.heap.size + 1 + 1) := by omega
  have hkx2 : w.heap.size < u1.heap.size + 1 + 1 := by omega
  have hB := hB'; clear hB'
  have hsz := hB.size
  clear hR
  (try dsimp only at hR1)
  have hw1 : w.heap.size + 2 ≤ u1.heap.size := by omega
  have hv0 : ¬ (w.heap.size = u1.heap.size) := by omega
  have hy0 : ¬ (u1.heap.size = w.heap.size) := by omega
  have hv1 : ¬ (w.heap.size + 1 = u1.heap.size) := by omega
  have hy1 : ¬ (u1.heap.size = w.heap.size + 1) := by omega
  go_wp2_with fail
  ((with_reducible refine (wrong_c rb S0 _ ⟨⟨ak, ax, an, al, ac⟩ :: rs, ssp, sv, sdn, sdb, stn, stb⟩ ⟨ak, ax, an, al, ac⟩ rs rfl (by (repeat (first | with_reducible assumption | (with_reducible refine Rd.al ?_ _) | ((with_reducible refine Rd.setl ?_ HLOW hkr ?_ _); rotate_left; (dsimp only; omega)))))).mono ?_); rintro _ u2 ⟨rfl, hb⟩)
  have T : CF u2 (w.heap.size + 1) 0 (.int .i64 0) ∧ CF u2 (w.heap.size + 1) 1 (.int .i64 0) ∧ CC u2 w.heap.size 3 4 (.int .i64 wl) (.int .i64 wc) := by
      refine ⟨⟨?_, ?_⟩, ⟨?_, ?_⟩, ⟨?_, ?_⟩⟩ <;> first | (refine kg hb ?_ ?_; (· omega); (· (go_simp; first | done | rfl))) | (refine kgf hb ?_ ?_ ?_; (· omega); (· first | go_size | omega | (simp only [World.size_alloc, World.size_setCell, World.size_drew]; omega)); (· (go_simp; first | done | rfl)))
  have hz := hb.size
  (try simp only [World.size_alloc, World.size_setCell, World.size_drew] at hz)
  have L : w.heap.size + 1 < u2.heap.size ∧ w.heap.size < u2.heap.size := by omega
  have hB' : w.grownBy u2 (some rb) := by
      refine World.grownBy.trans ?_ hb
      (repeat (first | with_reducible assumption | with_reducible exact World.grownBy.refl _ _ | (with_reducible refine grown_al ?_ _) | ((with_reducible refine grown_new ?_ ?_); rotate_left; (dsimp only; omega))))
  clear hz_0 fz_0 hz_1 fz_1 hx_3 hx_4 hlz hlx hnz0 hnz1 hkz1 hnz2 hkz2 hnx2 hkx2 hB hsz
  clear hb hz
  obtain ⟨⟨hz_0, fz_0⟩, ⟨hz_1, fz_1⟩, ⟨hx_3, hx_4⟩⟩ := T
  obtain ⟨hlz, hlx⟩ := L
  obtain ⟨hnz0, hnz1, hkz1, hnz2, hkz2⟩ := ap1f hlz
  have hnx2 : ¬ (w.heap.size = u2.heap.size + 1 + 1) := by omega
  have hkx2 : w.heap.size < u2.heap.size + 1 + 1 := by omega
  have hB := hB'; clear hB'
  have hsz := hB.size
  go_wp2
  refine bodyPost_ret (v := .tuple #[.agg #[.int .i64 al, .int .i64 ac], .int .i64 11]) (by simp [results, Tryz.results56, go_sem, hz_0, hz_1] <;> first | done | rfl) rfl (setEnd_err HF.out.1 HF.out.2.1 HF.out.2.2 (by decide) (Tur.of_grown (by (repeat (first | with_reducible assumption | with_reducible exact World.grownBy.refl _ _ | (with_reducible refine grown_al ?_ _) | ((with_reducible refine grown_new ?_ ?_); rotate_left; (dsimp only; omega))))) hlt hsz0))
set_option maxRecDepth 100000 in
set_option maxHeartbeats 8000000 in
theorem settT_Z (ak an al ac : Int) (ax : List UInt8) (zk zn zl zc : Int) (zx : List UInt8) (rs : List Tk) (wk wn wl wc : Int) (wx : List UInt8) (ssp : List Mk) (sv : Value) (sdn stn : Int) (sdb stb : Bool) (h0 : ak = 2) (h1 : ¬ zk = 4) (rb S0 : Nat) (w : World) (hR : Rd rb S0 w ⟨⟨ak, ax, an, al, ac⟩ :: ⟨zk, zx, zn, zl, zc⟩ :: rs, ssp, sv, sdn, sdb, stn, stb⟩) :
    Calls Tryz.prog 56 #[.pointer (some ⟨rb, 0, none⟩), tkV ⟨wk, wx, wn, wl, wc⟩, .pointer (some ⟨rb, 4, none⟩), .func (.func 28) #[] #[]] w (SetEnd rb S0 sv w (fun o => ⟨o.r, ssp, sv, sdn, sdb, o.n, true⟩) (settM stb mayT ⟨wk, wx, wn, wl, wc⟩ (⟨ak, ax, an, al, ac⟩ :: ⟨zk, zx, zn, zl, zc⟩ :: rs))) := by
  have hlt := hR.lt
  have hsz0 := hR.sz
  have hkr : rb < w.heap.size := by omega
  have hrw : ¬ rb = w.heap.size := by omega
  have hrw1 : ¬ rb = w.heap.size + 1 := by omega
  have HLOW := Lib.hid (show ∀ g, sv.ownBlock = some g → g < w.heap.size from fun g h => (hR.row.2.lt g h).2)
  obtain ⟨O, hO⟩ : ∃ O, settM stb mayT ⟨wk, wx, wn, wl, wc⟩ (⟨ak, ax, an, al, ac⟩ :: ⟨zk, zx, zn, zl, zc⟩ :: rs) = O := ⟨_, rfl⟩
  rw [hO]
  have HF := Lib.hid (show O.e = 11 ∧ O.li = zl ∧ O.co = zc from by rw [← hO]; simp [settM, h0, h1])
  clear hO
  have ht0 : (ak == 2) = true := by rw [h0]; rfl
  have HT0 := Lib.hid (fun W hR => (takei_c 2 rb S0 W ⟨⟨ak, ax, an, al, ac⟩ :: ⟨zk, zx, zn, zl, zc⟩ :: rs, ssp, sv, sdn, sdb, stn, stb⟩ ⟨ak, ax, an, al, ac⟩ (⟨zk, zx, zn, zl, zc⟩ :: rs) rfl hR).mono (fun e w' h => h.1 ht0))
  (try dsimp only [tkV] at HT0)
  have ht1 : (zk == 4) = false := by exact beq_eq_false_iff_ne.2 h1
  have HT1 := Lib.hid (fun W hR => (takei_c 4 rb S0 W ⟨⟨zk, zx, zn, zl, zc⟩ :: rs, ssp, sv, sdn, sdb, stn, stb⟩ ⟨zk, zx, zn, zl, zc⟩ (rs) rfl hR).mono (fun e w' h => h.2 ht1))
  (try dsimp only [tkV] at HT1)
  clear ht0 ht1
  unfold tkV
  (try dsimp only)
  generalize txB ax = aT at *
  generalize txB zx = zT at *
  generalize txB wx = wT at *
  go_enter Tryz.func56, Tryz.ntmps56
  go_wp2_with fail
  ((with_reducible refine (HT0.out _ (by (repeat (first | with_reducible assumption | (with_reducible refine Rd.al ?_ _) | ((with_reducible refine Rd.setl ?_ HLOW hkr ?_ _); rotate_left; (dsimp only; omega)))))).mono ?_); rintro _ u1 ⟨rfl, hR1, hb⟩)
  have T : CF u1 (w.heap.size + 1) 0 (.int .i64 0) ∧ CF u1 (w.heap.size + 1) 1 (.int .i64 0) ∧ CC u1 w.heap.size 3 4 (.int .i64 wl) (.int .i64 wc) := by
      refine ⟨⟨?_, ?_⟩, ⟨?_, ?_⟩, ⟨?_, ?_⟩⟩ <;> first | (refine kg hb ?_ ?_; (· omega); (· (go_simp; first | done | rfl))) | (refine kgf hb ?_ ?_ ?_; (· omega); (· first | go_size | omega | (simp only [World.size_alloc, World.size_setCell, World.size_drew]; omega)); (· (go_simp; first | done | rfl)))
  have hz := hb.size
  (try simp only [World.size_alloc, World.size_setCell, World.size_drew] at hz)
  have L : w.heap.size + 1 < u1.heap.size ∧ w.heap.size < u1.heap.size := by omega
  have hB' : w.grownBy u1 (some rb) := by
      refine World.grownBy.trans ?_ hb
      (repeat (first | with_reducible assumption | with_reducible exact World.grownBy.refl _ _ | (with_reducible refine grown_al ?_ _) | ((with_reducible refine grown_new ?_ ?_); rotate_left; (dsimp only; omega))))
  clear hb hz
  obtain ⟨⟨hz_0, fz_0⟩, ⟨hz_1, fz_1⟩, ⟨hx_3, hx_4⟩⟩ := T
  obtain ⟨hlz, hlx⟩ := L
  obtain ⟨hnz0, hnz1, hkz1, hnz2, hkz2⟩ := ap1f hlz
  have hnx2 : ¬ (w.heap.size = u1.heap.size + 1 + 1) := by omega
  have hkx2 : w.heap.size < u1.heap.size + 1 + 1 := by omega
  have hB := hB'; clear hB'
  have hsz := hB.size
  clear hR
  (try dsimp only at hR1)
  have hw1 : w.heap.size + 2 ≤ u1.heap.size := by omega
  have hv0 : ¬ (w.heap.size = u1.heap.size) := by omega
  have hy0 : ¬ (u1.heap.size = w.heap.size) := by omega
  have hv1 : ¬ (w.heap.size + 1 = u1.heap.size) := by omega
  have hy1 : ¬ (u1.heap.size = w.heap.size + 1) := by omega
  go_wp2_with fail
  ((with_reducible refine (HT1.out _ (by (repeat (first | with_reducible assumption | (with_reducible refine Rd.al ?_ _) | ((with_reducible refine Rd.setl ?_ HLOW hkr ?_ _); rotate_left; (dsimp only; omega)))))).mono ?_); rintro _ u2 ⟨rfl, hR2, hb⟩)
  have T : CF u2 (w.heap.size + 1) 0 (.int .i64 0) ∧ CF u2 (w.heap.size + 1) 1 (.int .i64 0) ∧ CC u2 w.heap.size 3 4 (.int .i64 wl) (.int .i64 wc) ∧ CC u2 u1.heap.size 2 3 (.int .i64 an) (.int .i64 al) ∧ u2.cell? ⟨u1.heap.size, 4, none⟩ = some (.int .i64 ac) := by
      refine ⟨⟨?_, ?_⟩, ⟨?_, ?_⟩, ⟨?_, ?_⟩, ⟨?_, ?_⟩, ?_⟩ <;> first | (refine kg hb ?_ ?_; (· omega); (· (go_simp; first | done | rfl))) | (refine kgf hb ?_ ?_ ?_; (· omega); (· first | go_size | omega | (simp only [World.size_alloc, World.size_setCell, World.size_drew]; omega)); (· (go_simp; first | done | rfl)))
  have hz := hb.size
  (try simp only [World.size_alloc, World.size_setCell, World.size_drew] at hz)
  have L : w.heap.size + 1 < u2.heap.size ∧ w.heap.size < u2.heap.size ∧ u1.heap.size < u2.heap.size := by omega
  have hB' : w.grownBy u2 (some rb) := by
      refine World.grownBy.trans ?_ hb
      (repeat (first | with_reducible assumption | with_reducible exact World.grownBy.refl _ _ | (with_reducible refine grown_al ?_ _) | ((with_reducible refine grown_new ?_ ?_); rotate_left; (dsimp only; omega))))
  clear hz_0 fz_0 hz_1 fz_1 hx_3 hx_4 hlz hlx hnz0 hnz1 hkz1 hnz2 hkz2 hnx2 hkx2 hB hsz
  clear hb hz
  obtain ⟨⟨hz_0, fz_0⟩, ⟨hz_1, fz_1⟩, ⟨hx_3, hx_4⟩, ⟨hf_2, hf_3⟩, hf_4⟩ := T
  obtain ⟨hlz, hlx, hlf⟩ := L
  obtain ⟨hnz0, hnz1, hkz1, hnz2, hkz2⟩ := ap1f hlz
  have hnx2 : ¬ (w.heap.size = u2.heap.size + 1 + 1) := by omega
  have hkx2 : w.heap.size < u2.heap.size + 1 + 1 := by omega
  obtain ⟨hnf0, hnf1, hkf1, hnf2, hkf2⟩ := ap0 hlf
  have hB := hB'; clear hB'
  have hsz := hB.size
  clear hR1
  (try dsimp only at hR2)
  go_wp2_with fail
  ((with_reducible refine (wrong_c rb S0 _ ⟨⟨zk, zx, zn, zl, zc⟩ :: rs, ssp, sv, sdn, sdb, stn, stb⟩ ⟨zk, zx, zn, zl, zc⟩ rs rfl (by (repeat (first | with_reducible assumption | (with_reducible refine Rd.al ?_ _) | ((with_reducible refine Rd.setl ?_ HLOW hkr ?_ _); rotate_left; (dsimp only; omega)))))).mono ?_); rintro _ u3 ⟨rfl, hb⟩)
  have T : CF u3 (w.heap.size + 1) 0 (.int .i64 0) ∧ CF u3 (w.heap.size + 1) 1 (.int .i64 0) ∧ CC u3 w.heap.size 3 4 (.int .i64 wl) (.int .i64 wc) ∧ CC u3 u1.heap.size 2 3 (.int .i64 an) (.int .i64 al) ∧ u3.cell? ⟨u1.heap.size, 4, none⟩ = some (.int .i64 ac) := by
      refine ⟨⟨?_, ?_⟩, ⟨?_, ?_⟩, ⟨?_, ?_⟩, ⟨?_, ?_⟩, ?_⟩ <;> first | (refine kg hb ?_ ?_; (· omega); (· (go_simp; first | done | rfl))) | (refine kgf hb ?_ ?_ ?_; (· omega); (· first | go_size | omega | (simp only [World.size_alloc, World.size_setCell, World.size_drew]; omega)); (· (go_simp; first | done | rfl)))
  have hz := hb.size
  (try simp only [World.size_alloc, World.size_setCell, World.size_drew] at hz)
  have L : w.heap.size + 1 < u3.heap.size ∧ w.heap.size < u3.heap.size ∧ u1.heap.size < u3.heap.size := by omega
  have hB' : w.grownBy u3 (some rb) := by
      refine World.grownBy.trans ?_ hb
      (repeat (first | with_reducible assumption | with_reducible exact World.grownBy.refl _ _ | (with_reducible refine grown_al ?_ _) | ((with_reducible refine grown_new ?_ ?_); rotate_left; (dsimp only; omega))))
  clear hz_0 fz_0 hz_1 fz_1 hx_3 hx_4 hf_2 hf_3 hf_4 hlz hlx hlf hnz0 hnz1 hkz1 hnz2 hkz2 hnx2 hkx2 hnf0 hnf1 hkf1 hnf2 hkf2 hB hsz
  clear hb hz
  obtain ⟨⟨hz_0, fz_0⟩, ⟨hz_1, fz_1⟩, ⟨hx_3, hx_4⟩, ⟨hf_2, hf_3⟩, hf_4⟩ := T
  obtain ⟨hlz, hlx, hlf⟩ := L
  obtain ⟨hnz0, hnz1, hkz1, hnz2, hkz2⟩ := ap1f hlz
  have hnx2 : ¬ (w.heap.size = u3.heap.size + 1 + 1) := by omega
  have hkx2 : w.heap.size < u3.heap.size + 1 + 1 := by omega
  obtain ⟨hnf0, hnf1, hkf1, hnf2, hkf2⟩ := ap0 hlf
  have hB := hB'; clear hB'
  have hsz := hB.size
  go_wp2
  refine bodyPost_ret (v := .tuple #[.agg #[.int .i64 zl, .int .i64 zc], .int .i64 11]) (by simp [results, Tryz.results56, go_sem, hz_0, hz_1] <;> first | done | rfl) rfl (setEnd_err HF.out.1 HF.out.2.1 HF.out.2.2 (by decide) (Tur.of_grown (by (repeat (first | with_reducible assumption | with_reducible exact World.grownBy.refl _ _ | (with_reducible refine grown_al ?_ _) | ((with_reducible refine grown_new ?_ ?_); rotate_left; (dsimp only; omega))))) hlt hsz0))
set_option maxRecDepth 100000 in
set_option maxHeartbeats 8000000 in
theorem settT_T (ak an al ac : Int) (ax : List UInt8) (zk zn zl zc : Int) (zx : List UInt8) (rs : List Tk) (wk wn wl wc : Int) (wx : List UInt8) (ssp : List Mk) (sv : Value) (sdn stn : Int) (sdb stb : Bool) (h0 : ak = 2) (h1 : zk = 4) (h2 : stb = true) (rb S0 : Nat) (w : World) (hR : Rd rb S0 w ⟨⟨ak, ax, an, al, ac⟩ :: ⟨zk, zx, zn, zl, zc⟩ :: rs, ssp, sv, sdn, sdb, stn, stb⟩) :
    Calls Tryz.prog 56 #[.pointer (some ⟨rb, 0, none⟩), tkV ⟨wk, wx, wn, wl, wc⟩, .pointer (some ⟨rb, 4, none⟩), .func (.func 28) #[] #[]] w (SetEnd rb S0 sv w (fun o => ⟨o.r, ssp, sv, sdn, sdb, o.n, true⟩) (settM stb mayT ⟨wk, wx, wn, wl, wc⟩ (⟨ak, ax, an, al, ac⟩ :: ⟨zk, zx, zn, zl, zc⟩ :: rs))) := by
  have hlt := hR.lt
  have hsz0 := hR.sz
  have hkr : rb < w.heap.size := by omega
  have hrw : ¬ rb = w.heap.size := by omega
  have hrw1 : ¬ rb = w.heap.size + 1 := by omega
  have HLOW := Lib.hid (show ∀ g, sv.ownBlock = some g → g < w.heap.size from fun g h => (hR.row.2.lt g h).2)
  obtain ⟨O, hO⟩ : ∃ O, settM stb mayT ⟨wk, wx, wn, wl, wc⟩ (⟨ak, ax, an, al, ac⟩ :: ⟨zk, zx, zn, zl, zc⟩ :: rs) = O := ⟨_, rfl⟩
  rw [hO]
  have HF := Lib.hid (show O.e = 16 ∧ O.li = wl ∧ O.co = wc from by rw [← hO]; simp [settM, h0, h1, h2])
  clear hO
  have ht0 : (ak == 2) = true := by rw [h0]; rfl
  have HT0 := Lib.hid (fun W hR => (takei_c 2 rb S0 W ⟨⟨ak, ax, an, al, ac⟩ :: ⟨zk, zx, zn, zl, zc⟩ :: rs, ssp, sv, sdn, sdb, stn, stb⟩ ⟨ak, ax, an, al, ac⟩ (⟨zk, zx, zn, zl, zc⟩ :: rs) rfl hR).mono (fun e w' h => h.1 ht0))
  (try dsimp only [tkV] at HT0)
  have ht1 : (zk == 4) = true := by rw [h1]; rfl
  have HT1 := Lib.hid (fun W hR => (takei_c 4 rb S0 W ⟨⟨zk, zx, zn, zl, zc⟩ :: rs, ssp, sv, sdn, sdb, stn, stb⟩ ⟨zk, zx, zn, zl, zc⟩ (rs) rfl hR).mono (fun e w' h => h.1 ht1))
  (try dsimp only [tkV] at HT1)
  clear ht0 ht1
  unfold tkV
  (try dsimp only)
  generalize txB ax = aT at *
  generalize txB zx = zT at *
  generalize txB wx = wT at *
  go_enter Tryz.func56, Tryz.ntmps56
  go_wp2_with fail
  ((with_reducible refine (HT0.out _ (by (repeat (first | with_reducible assumption | (with_reducible refine Rd.al ?_ _) | ((with_reducible refine Rd.setl ?_ HLOW hkr ?_ _); rotate_left; (dsimp only; omega)))))).mono ?_); rintro _ u1 ⟨rfl, hR1, hb⟩)
  have T : CF u1 (w.heap.size + 1) 0 (.int .i64 0) ∧ CF u1 (w.heap.size + 1) 1 (.int .i64 0) ∧ CC u1 w.heap.size 3 4 (.int .i64 wl) (.int .i64 wc) := by
      refine ⟨⟨?_, ?_⟩, ⟨?_, ?_⟩, ⟨?_, ?_⟩⟩ <;> first | (refine kg hb ?_ ?_; (· omega); (· (go_simp; first | done | rfl))) | (refine kgf hb ?_ ?_ ?_; (· omega); (· first | go_size | omega | (simp only [World.size_alloc, World.size_setCell, World.size_drew]; omega)); (· (go_simp; first | done | rfl)))
  have hz := hb.size
  (try simp only [World.size_alloc, World.size_setCell, World.size_drew] at hz)
  have L : w.heap.size + 1 < u1.heap.size ∧ w.heap.size < u1.heap.size := by omega
  have hB' : w.grownBy u1 (some rb) := by
      refine World.grownBy.trans ?_ hb
      (repeat (first | with_reducible assumption | with_reducible exact World.grownBy.refl _ _ | (with_reducible refine grown_al ?_ _) | ((with_reducible refine grown_new ?_ ?_); rotate_left; (dsimp only; omega))))
  clear hb hz
  obtain ⟨⟨hz_0, fz_0⟩, ⟨hz_1, fz_1⟩, ⟨hx_3, hx_4⟩⟩ := T
  obtain ⟨hlz, hlx⟩ := L
  obtain ⟨hnz0, hnz1, hkz1, hnz2, hkz2⟩ := ap1f hlz
  have hnx2 : ¬ (w.heap.size = u1.heap.size + 1 + 1) := by omega
  have hkx2 : w.heap.size < u1.heap.size + 1 + 1 := by omega
  have hB := hB'; clear hB'
  have hsz := hB.size
  clear hR
  (try dsimp only at hR1)
  have hw1 : w.heap.size + 2 ≤ u1.heap.size := by omega
  have hv0 : ¬ (w.heap.size = u1.heap.size) := by omega
  have hy0 : ¬ (u1.heap.size = w.heap.size) := by omega
  have hv1 : ¬ (w.heap.size + 1 = u1.heap.size) := by omega
  have hy1 : ¬ (u1.heap.size = w.heap.size + 1) := by omega
  go_wp2_with fail
  ((with_reducible refine (HT1.out _ (by (repeat (first | with_reducible assumption | (with_reducible refine Rd.al ?_ _) | ((with_reducible refine Rd.setl ?_ HLOW hkr ?_ _); rotate_left; (dsimp only; omega)))))).mono ?_); rintro _ u2 ⟨rfl, hR2, hb⟩)
  have T : CF u2 (w.heap.size + 1) 0 (.int .i64 0) ∧ CF u2 (w.heap.size + 1) 1 (.int .i64 0) ∧ CC u2 w.heap.size 3 4 (.int .i64 wl) (.int .i64 wc) ∧ CC u2 u1.heap.size 2 3 (.int .i64 an) (.int .i64 al) ∧ u2.cell? ⟨u1.heap.size, 4, none⟩ = some (.int .i64 ac) := by
      refine ⟨⟨?_, ?_⟩, ⟨?_, ?_⟩, ⟨?_, ?_⟩, ⟨?_, ?_⟩, ?_⟩ <;> first | (refine kg hb ?_ ?_; (· omega); (· (go_simp; first | done | rfl))) | (refine kgf hb ?_ ?_ ?_; (· omega); (· first | go_size | omega | (simp only [World.size_alloc, World.size_setCell, World.size_drew]; omega)); (· (go_simp; first | done | rfl)))
  have hz := hb.size
  (try simp only [World.size_alloc, World.size_setCell, World.size_drew] at hz)
  have L : w.heap.size + 1 < u2.heap.size ∧ w.heap.size < u2.heap.size ∧ u1.heap.size < u2.heap.size := by omega
  have hB' : w.grownBy u2 (some rb) := by
      refine World.grownBy.trans ?_ hb
      (repeat (first | with_reducible assumption | with_reducible exact World.grownBy.refl _ _ | (with_reducible refine grown_al ?_ _) | ((with_reducible refine grown_new ?_ ?_); rotate_left; (dsimp only; omega))))
  clear hz_0 fz_0 hz_1 fz_1 hx_3 hx_4 hlz hlx hnz0 hnz1 hkz1 hnz2 hkz2 hnx2 hkx2 hB hsz
  clear hb hz
  obtain ⟨⟨hz_0, fz_0⟩, ⟨hz_1, fz_1⟩, ⟨hx_3, hx_4⟩, ⟨hf_2, hf_3⟩, hf_4⟩ := T
  obtain ⟨hlz, hlx, hlf⟩ := L
  obtain ⟨hnz0, hnz1, hkz1, hnz2, hkz2⟩ := ap1f hlz
  have hnx2 : ¬ (w.heap.size = u2.heap.size + 1 + 1) := by omega
  have hkx2 : w.heap.size < u2.heap.size + 1 + 1 := by omega
  obtain ⟨hnf0, hnf1, hkf1, hnf2, hkf2⟩ := ap0 hlf
  have hB := hB'; clear hB'
  have hsz := hB.size
  clear hR1
  (try dsimp only at hR2)
  have hku : rb < u2.heap.size := by omega
  have hru : ¬ rb = u2.heap.size := by omega
  have hto := hR2.c5
  have hnn := hR2.c4
  have hf1 := hR2.fr 4 (by omega)
  have hf2 := hR2.fr 5 (by omega)
  subst h2
  (try dsimp only at hto)
  go_wp2
  refine bodyPost_ret (v := .tuple #[.agg #[.int .i64 wl, .int .i64 wc], .int .i64 16]) (by simp [results, Tryz.results56, go_sem, hz_0, hz_1] <;> first | done | rfl) rfl (setEnd_err HF.out.1 HF.out.2.1 HF.out.2.2 (by decide) (Tur.of_grown (by (repeat (first | with_reducible assumption | with_reducible exact World.grownBy.refl _ _ | (with_reducible refine grown_al ?_ _) | ((with_reducible refine grown_new ?_ ?_); rotate_left; (dsimp only; omega))))) hlt hsz0))
set_option maxRecDepth 100000 in
set_option maxHeartbeats 8000000 in
theorem settT_R (ak an al ac : Int) (ax : List UInt8) (zk zn zl zc : Int) (zx : List UInt8) (rs : List Tk) (wk wn wl wc : Int) (wx : List UInt8) (ssp : List Mk) (sv : Value) (sdn stn : Int) (sdb stb : Bool) (h0 : ak = 2) (h1 : zk = 4) (h2 : stb = false) (h3 : mayT an = false) (rb S0 : Nat) (w : World) (hR : Rd rb S0 w ⟨⟨ak, ax, an, al, ac⟩ :: ⟨zk, zx, zn, zl, zc⟩ :: rs, ssp, sv, sdn, sdb, stn, stb⟩) :
    Calls Tryz.prog 56 #[.pointer (some ⟨rb, 0, none⟩), tkV ⟨wk, wx, wn, wl, wc⟩, .pointer (some ⟨rb, 4, none⟩), .func (.func 28) #[] #[]] w (SetEnd rb S0 sv w (fun o => ⟨o.r, ssp, sv, sdn, sdb, o.n, true⟩) (settM stb mayT ⟨wk, wx, wn, wl, wc⟩ (⟨ak, ax, an, al, ac⟩ :: ⟨zk, zx, zn, zl, zc⟩ :: rs))) := by
  have hlt := hR.lt
  have hsz0 := hR.sz
  have hkr : rb < w.heap.size := by omega
  have hrw : ¬ rb = w.heap.size := by omega
  have hrw1 : ¬ rb = w.heap.size + 1 := by omega
  have HLOW := Lib.hid (show ∀ g, sv.ownBlock = some g → g < w.heap.size from fun g h => (hR.row.2.lt g h).2)
  obtain ⟨O, hO⟩ : ∃ O, settM stb mayT ⟨wk, wx, wn, wl, wc⟩ (⟨ak, ax, an, al, ac⟩ :: ⟨zk, zx, zn, zl, zc⟩ :: rs) = O := ⟨_, rfl⟩
  rw [hO]
  have HF := Lib.hid (show O.e = 10 ∧ O.li = al ∧ O.co = ac from by rw [← hO]; simp [settM, h0, h1, h2, h3])
  clear hO
  have ht0 : (ak == 2) = true := by rw [h0]; rfl
  have HT0 := Lib.hid (fun W hR => (takei_c 2 rb S0 W ⟨⟨ak, ax, an, al, ac⟩ :: ⟨zk, zx, zn, zl, zc⟩ :: rs, ssp, sv, sdn, sdb, stn, stb⟩ ⟨ak, ax, an, al, ac⟩ (⟨zk, zx, zn, zl, zc⟩ :: rs) rfl hR).mono (fun e w' h => h.1 ht0))
  (try dsimp only [tkV] at HT0)
  have ht1 : (zk == 4) = true := by rw [h1]; rfl
  have HT1 := Lib.hid (fun W hR => (takei_c 4 rb S0 W ⟨⟨zk, zx, zn, zl, zc⟩ :: rs, ssp, sv, sdn, sdb, stn, stb⟩ ⟨zk, zx, zn, zl, zc⟩ (rs) rfl hR).mono (fun e w' h => h.1 ht1))
  (try dsimp only [tkV] at HT1)
  clear ht0 ht1
  unfold tkV
  (try dsimp only)
  generalize txB ax = aT at *
  generalize txB zx = zT at *
  generalize txB wx = wT at *
  go_enter Tryz.func56, Tryz.ntmps56
  go_wp2_with fail
  ((with_reducible refine (HT0.out _ (by (repeat (first | with_reducible assumption | (with_reducible refine Rd.al ?_ _) | ((with_reducible refine Rd.setl ?_ HLOW hkr ?_ _); rotate_left; (dsimp only; omega)))))).mono ?_); rintro _ u1 ⟨rfl, hR1, hb⟩)
  have T : CF u1 (w.heap.size + 1) 0 (.int .i64 0) ∧ CF u1 (w.heap.size + 1) 1 (.int .i64 0) ∧ CC u1 w.heap.size 3 4 (.int .i64 wl) (.int .i64 wc) := by
      refine ⟨⟨?_, ?_⟩, ⟨?_, ?_⟩, ⟨?_, ?_⟩⟩ <;> first | (refine kg hb ?_ ?_; (· omega); (· (go_simp; first | done | rfl))) | (refine kgf hb ?_ ?_ ?_; (· omega); (· first | go_size | omega | (simp only [World.size_alloc, World.size_setCell, World.size_drew]; omega)); (· (go_simp; first | done | rfl)))
  have hz := hb.size
  (try simp only [World.size_alloc, World.size_setCell, World.size_drew] at hz)
  have L : w.heap.size + 1 < u1.heap.size ∧ w.heap.size < u1.heap.size := by omega
  have hB' : w.grownBy u1 (some rb) := by
      refine World.grownBy.trans ?_ hb
      (repeat (first | with_reducible assumption | with_reducible exact World.grownBy.refl _ _ | (with_reducible refine grown_al ?_ _) | ((with_reducible refine grown_new ?_ ?_); rotate_left; (dsimp only; omega))))
  clear hb hz
  obtain ⟨⟨hz_0, fz_0⟩, ⟨hz_1, fz_1⟩, ⟨hx_3, hx_4⟩⟩ := T
  obtain ⟨hlz, hlx⟩ := L
  obtain ⟨hnz0, hnz1, hkz1, hnz2, hkz2⟩ := ap1f hlz
  have hnx2 : ¬ (w.heap.size = u1.heap.size + 1 + 1) := by omega
  have hkx2 : w.heap.size < u1.heap.size + 1 + 1 := by omega
  have hB := hB'; clear hB'
  have hsz := hB.size
  clear hR
  (try dsimp only at hR1)
  have hw1 : w.heap.size + 2 ≤ u1.heap.size := by omega
  have hv0 : ¬ (w.heap.size = u1.heap.size) := by omega
  have hy0 : ¬ (u1.heap.size = w.heap.size) := by omega
  have hv1 : ¬ (w.heap.size + 1 = u1.heap.size) := by omega
  have hy1 : ¬ (u1.heap.size = w.heap.size + 1) := by omega
  go_wp2_with fail
  ((with_reducible refine (HT1.out _ (by (repeat (first | with_reducible assumption | (with_reducible refine Rd.al ?_ _) | ((with_reducible refine Rd.setl ?_ HLOW hkr ?_ _); rotate_left; (dsimp only; omega)))))).mono ?_); rintro _ u2 ⟨rfl, hR2, hb⟩)
  have T : CF u2 (w.heap.size + 1) 0 (.int .i64 0) ∧ CF u2 (w.heap.size + 1) 1 (.int .i64 0) ∧ CC u2 w.heap.size 3 4 (.int .i64 wl) (.int .i64 wc) ∧ CC u2 u1.heap.size 2 3 (.int .i64 an) (.int .i64 al) ∧ u2.cell? ⟨u1.heap.size, 4, none⟩ = some (.int .i64 ac) := by
      refine ⟨⟨?_, ?_⟩, ⟨?_, ?_⟩, ⟨?_, ?_⟩, ⟨?_, ?_⟩, ?_⟩ <;> first | (refine kg hb ?_ ?_; (· omega); (· (go_simp; first | done | rfl))) | (refine kgf hb ?_ ?_ ?_; (· omega); (· first | go_size | omega | (simp only [World.size_alloc, World.size_setCell, World.size_drew]; omega)); (· (go_simp; first | done | rfl)))
  have hz := hb.size
  (try simp only [World.size_alloc, World.size_setCell, World.size_drew] at hz)
  have L : w.heap.size + 1 < u2.heap.size ∧ w.heap.size < u2.heap.size ∧ u1.heap.size < u2.heap.size := by omega
  have hB' : w.grownBy u2 (some rb) := by
      refine World.grownBy.trans ?_ hb
      (repeat (first | with_reducible assumption | with_reducible exact World.grownBy.refl _ _ | (with_reducible refine grown_al ?_ _) | ((with_reducible refine grown_new ?_ ?_); rotate_left; (dsimp only; omega))))
  clear hz_0 fz_0 hz_1 fz_1 hx_3 hx_4 hlz hlx hnz0 hnz1 hkz1 hnz2 hkz2 hnx2 hkx2 hB hsz
  clear hb hz
  obtain ⟨⟨hz_0, fz_0⟩, ⟨hz_1, fz_1⟩, ⟨hx_3, hx_4⟩, ⟨hf_2, hf_3⟩, hf_4⟩ := T
  obtain ⟨hlz, hlx, hlf⟩ := L
  obtain ⟨hnz0, hnz1, hkz1, hnz2, hkz2⟩ := ap1f hlz
  have hnx2 : ¬ (w.heap.size = u2.heap.size + 1 + 1) := by omega
  have hkx2 : w.heap.size < u2.heap.size + 1 + 1 := by omega
  obtain ⟨hnf0, hnf1, hkf1, hnf2, hkf2⟩ := ap0 hlf
  have hB := hB'; clear hB'
  have hsz := hB.size
  clear hR1
  (try dsimp only at hR2)
  have hku : rb < u2.heap.size := by omega
  have hru : ¬ rb = u2.heap.size := by omega
  have hto := hR2.c5
  have hnn := hR2.c4
  have hf1 := hR2.fr 4 (by omega)
  have hf2 := hR2.fr 5 (by omega)
  subst h2
  (try dsimp only at hto)
  have HM := Lib.hid (mayt_c an)
  rw [h3] at HM
  have hrg : ¬ rb = w.heap.size + 1 := by omega
  have hn_0 := hnn; have fn_0 := hf1; have ho_0 := hto; have fo_0 := hf2; clear hnn hf1 hto hf2
  have HG := Lib.hid hB
  have HR := Lib.hid hR2
  clear hR2
  have hbr : Below u2.heap.size u2 u2 := Below.refl _ _
  go_wp2_with fail
  ((with_reducible refine (HM.out _).mono ?_); rintro _ y ⟨rfl, hb⟩)
  have T : CF y (w.heap.size + 1) 0 (.int .i64 0) ∧ CF y (w.heap.size + 1) 1 (.int .i64 0) ∧ CC y w.heap.size 3 4 (.int .i64 wl) (.int .i64 wc) ∧ CC y u1.heap.size 2 3 (.int .i64 an) (.int .i64 al) ∧ y.cell? ⟨u1.heap.size, 4, none⟩ = some (.int .i64 ac) ∧ CF y rb 4 (.int .i64 stn) ∧ CF y rb 5 (.bool false) := by
      refine ⟨⟨?_, ?_⟩, ⟨?_, ?_⟩, ⟨?_, ?_⟩, ⟨?_, ?_⟩, ?_, ⟨?_, ?_⟩, ⟨?_, ?_⟩⟩ <;> first | (refine kc hb ?_ <;> (go_simp; first | done | rfl)) | (refine kfz hb ?_ ?_ <;> first | (go_size; done) | (go_simp; done))
  have hz := hb.size
  (try simp only [World.size_alloc, World.size_setCell, World.size_drew] at hz)
  have L : w.heap.size + 1 < y.heap.size ∧ w.heap.size < y.heap.size ∧ u1.heap.size < y.heap.size ∧ rb < y.heap.size ∧ rb < y.heap.size := by omega
  have hB' : Below u2.heap.size u2 y := by
      refine kb ?_ hb
      go_grown
  clear hz_0 fz_0 hz_1 fz_1 hx_3 hx_4 hf_2 hf_3 hf_4 hlz hlx hlf hnz0 hnz1 hkz1 hnz2 hkz2 hnx2 hkx2 hnf0 hnf1 hkf1 hnf2 hkf2 hB hsz
  clear hb hz
  obtain ⟨⟨hz_0, fz_0⟩, ⟨hz_1, fz_1⟩, ⟨hx_3, hx_4⟩, ⟨hf_2, hf_3⟩, hf_4, ⟨hn_0, fn_0⟩, ⟨ho_0, fo_0⟩⟩ := T
  obtain ⟨hlz, hlx, hlf, hln, hlo⟩ := L
  obtain ⟨hnz0, hnz1, hkz1, hnz2, hkz2⟩ := ap1f hlz
  have hnx2 : ¬ (w.heap.size = y.heap.size + 1 + 1) := by omega
  have hkx2 : w.heap.size < y.heap.size + 1 + 1 := by omega
  obtain ⟨hnf0, hnf1, hkf1, hnf2, hkf2⟩ := ap0 hlf
  obtain ⟨hnn0, hnn1, hkn1, hnn2, hkn2⟩ := ap0 hln
  have hB := hB'; clear hB'
  have hsz := hB.size
  have HT := Lib.hid ((Tur.of_grown (v := sv) HG.out hlt hsz0).trans (Tur.of_below hB hlt HR.out.sz))
  have HRy := Lib.hid (HR.out.on hB)
  go_wp2
  refine bodyPost_ret (v := .tuple #[.agg #[.int .i64 al, .int .i64 ac], .int .i64 10]) (by simp [results, Tryz.results56, go_sem, hz_0, hz_1] <;> first | done | rfl) rfl (setEnd_err HF.out.1 HF.out.2.1 HF.out.2.2 (by decide) ((HT.out.setn hlt hsz0 (by dsimp only; omega) _).setn hlt hsz0 (by dsimp only; omega) _))
set_option maxRecDepth 100000 in
set_option maxHeartbeats 8000000 in
theorem settT_O (ak an al ac : Int) (ax : List UInt8) (zk zn zl zc : Int) (zx : List UInt8) (rs : List Tk) (wk wn wl wc : Int) (wx : List UInt8) (ssp : List Mk) (sv : Value) (sdn stn : Int) (sdb stb : Bool) (h0 : ak = 2) (h1 : zk = 4) (h2 : stb = false) (h3 : mayT an = true) (rb S0 : Nat) (w : World) (hR : Rd rb S0 w ⟨⟨ak, ax, an, al, ac⟩ :: ⟨zk, zx, zn, zl, zc⟩ :: rs, ssp, sv, sdn, sdb, stn, stb⟩) :
    Calls Tryz.prog 56 #[.pointer (some ⟨rb, 0, none⟩), tkV ⟨wk, wx, wn, wl, wc⟩, .pointer (some ⟨rb, 4, none⟩), .func (.func 28) #[] #[]] w (SetEnd rb S0 sv w (fun o => ⟨o.r, ssp, sv, sdn, sdb, o.n, true⟩) (settM stb mayT ⟨wk, wx, wn, wl, wc⟩ (⟨ak, ax, an, al, ac⟩ :: ⟨zk, zx, zn, zl, zc⟩ :: rs))) := by
  have hlt := hR.lt
  have hsz0 := hR.sz
  have hkr : rb < w.heap.size := by omega
  have hrw : ¬ rb = w.heap.size := by omega
  have hrw1 : ¬ rb = w.heap.size + 1 := by omega
  have HLOW := Lib.hid (show ∀ g, sv.ownBlock = some g → g < w.heap.size from fun g h => (hR.row.2.lt g h).2)
  obtain ⟨O, hO⟩ : ∃ O, settM stb mayT ⟨wk, wx, wn, wl, wc⟩ (⟨ak, ax, an, al, ac⟩ :: ⟨zk, zx, zn, zl, zc⟩ :: rs) = O := ⟨_, rfl⟩
  rw [hO]
  have HF := Lib.hid (show O.e = 0 ∧ O.n = an ∧ O.r = rs from by rw [← hO]; simp [settM, h0, h1, h2, h3])
  clear hO
  have ht0 : (ak == 2) = true := by rw [h0]; rfl
  have HT0 := Lib.hid (fun W hR => (takei_c 2 rb S0 W ⟨⟨ak, ax, an, al, ac⟩ :: ⟨zk, zx, zn, zl, zc⟩ :: rs, ssp, sv, sdn, sdb, stn, stb⟩ ⟨ak, ax, an, al, ac⟩ (⟨zk, zx, zn, zl, zc⟩ :: rs) rfl hR).mono (fun e w' h => h.1 ht0))
  (try dsimp only [tkV] at HT0)
  have ht1 : (zk == 4) = true := by rw [h1]; rfl
  have HT1 := Lib.hid (fun W hR => (takei_c 4 rb S0 W ⟨⟨zk, zx, zn, zl, zc⟩ :: rs, ssp, sv, sdn, sdb, stn, stb⟩ ⟨zk, zx, zn, zl, zc⟩ (rs) rfl hR).mono (fun e w' h => h.1 ht1))
  (try dsimp only [tkV] at HT1)
  clear ht0 ht1
  unfold tkV
  (try dsimp only)
  generalize txB ax = aT at *
  generalize txB zx = zT at *
  generalize txB wx = wT at *
  go_enter Tryz.func56, Tryz.ntmps56
  go_wp2_with fail
  ((with_reducible refine (HT0.out _ (by (repeat (first | with_reducible assumption | (with_reducible refine Rd.al ?_ _) | ((with_reducible refine Rd.setl ?_ HLOW hkr ?_ _); rotate_left; (dsimp only; omega)))))).mono ?_); rintro _ u1 ⟨rfl, hR1, hb⟩)
  have T : CF u1 (w.heap.size + 1) 0 (.int .i64 0) ∧ CF u1 (w.heap.size + 1) 1 (.int .i64 0) ∧ CC u1 w.heap.size 3 4 (.int .i64 wl) (.int .i64 wc) := by
      refine ⟨⟨?_, ?_⟩, ⟨?_, ?_⟩, ⟨?_, ?_⟩⟩ <;> first | (refine kg hb ?_ ?_; (· omega); (· (go_simp; first | done | rfl))) | (refine kgf hb ?_ ?_ ?_; (· omega); (· first | go_size | omega | (simp only [World.size_alloc, World.size_setCell, World.size_drew]; omega)); (· (go_simp; first | done | rfl)))
  have hz := hb.size
  (try simp only [World.size_alloc, World.size_setCell, World.size_drew] at hz)
  have L : w.heap.size + 1 < u1.heap.size ∧ w.heap.size < u1.heap.size := by omega
  have hB' : w.grownBy u1 (some rb) := by
      refine World.grownBy.trans ?_ hb
      (repeat (first | with_reducible assumption | with_reducible exact World.grownBy.refl _ _ | (with_reducible refine grown_al ?_ _) | ((with_reducible refine grown_new ?_ ?_); rotate_left; (dsimp only; omega))))
  clear hb hz
  obtain ⟨⟨hz_0, fz_0⟩, ⟨hz_1, fz_1⟩, ⟨hx_3, hx_4⟩⟩ := T
  obtain ⟨hlz, hlx⟩ := L
  obtain ⟨hnz0, hnz1, hkz1, hnz2, hkz2⟩ := ap1f hlz
  have hnx2 : ¬ (w.heap.size = u1.heap.size + 1 + 1) := by omega
  have hkx2 : w.heap.size < u1.heap.size + 1 + 1 := by omega
  have hB := hB'; clear hB'
  have hsz := hB.size
  clear hR
  (try dsimp only at hR1)
  have hw1 : w.heap.size + 2 ≤ u1.heap.size := by omega
  have hv0 : ¬ (w.heap.size = u1.heap.size) := by omega
  have hy0 : ¬ (u1.heap.size = w.heap.size) := by omega
  have hv1 : ¬ (w.heap.size + 1 = u1.heap.size) := by omega
  have hy1 : ¬ (u1.heap.size = w.heap.size + 1) := by omega
  go_wp2_with fail
  ((with_reducible refine (HT1.out _ (by (repeat (first | with_reducible assumption | (with_reducible refine Rd.al ?_ _) | ((with_reducible refine Rd.setl ?_ HLOW hkr ?_ _); rotate_left; (dsimp only; omega)))))).mono ?_); rintro _ u2 ⟨rfl, hR2, hb⟩)
  have T : CF u2 (w.heap.size + 1) 0 (.int .i64 0) ∧ CF u2 (w.heap.size + 1) 1 (.int .i64 0) ∧ CC u2 w.heap.size 3 4 (.int .i64 wl) (.int .i64 wc) ∧ CC u2 u1.heap.size 2 3 (.int .i64 an) (.int .i64 al) ∧ u2.cell? ⟨u1.heap.size, 4, none⟩ = some (.int .i64 ac) := by
      refine ⟨⟨?_, ?_⟩, ⟨?_, ?_⟩, ⟨?_, ?_⟩, ⟨?_, ?_⟩, ?_⟩ <;> first | (refine kg hb ?_ ?_; (· omega); (· (go_simp; first | done | rfl))) | (refine kgf hb ?_ ?_ ?_; (· omega); (· first | go_size | omega | (simp only [World.size_alloc, World.size_setCell, World.size_drew]; omega)); (· (go_simp; first | done | rfl)))
  have hz := hb.size
  (try simp only [World.size_alloc, World.size_setCell, World.size_drew] at hz)
  have L : w.heap.size + 1 < u2.heap.size ∧ w.heap.size < u2.heap.size ∧ u1.heap.size < u2.heap.size := by omega
  have hB' : w.grownBy u2 (some rb) := by
      refine World.grownBy.trans ?_ hb
      (repeat (first | with_reducible assumption | with_reducible exact World.grownBy.refl _ _ | (with_reducible refine grown_al ?_ _) | ((with_reducible refine grown_new ?_ ?_); rotate_left; (dsimp only; omega))))
  clear hz_0 fz_0 hz_1 fz_1 hx_3 hx_4 hlz hlx hnz0 hnz1 hkz1 hnz2 hkz2 hnx2 hkx2 hB hsz
  clear hb hz
  obtain ⟨⟨hz_0, fz_0⟩, ⟨hz_1, fz_1⟩, ⟨hx_3, hx_4⟩, ⟨hf_2, hf_3⟩, hf_4⟩ := T
  obtain ⟨hlz, hlx, hlf⟩ := L
  obtain ⟨hnz0, hnz1, hkz1, hnz2, hkz2⟩ := ap1f hlz
  have hnx2 : ¬ (w.heap.size = u2.heap.size + 1 + 1) := by omega
  have hkx2 : w.heap.size < u2.heap.size + 1 + 1 := by omega
  obtain ⟨hnf0, hnf1, hkf1, hnf2, hkf2⟩ := ap0 hlf
  have hB := hB'; clear hB'
  have hsz := hB.size
  clear hR1
  (try dsimp only at hR2)
  have hku : rb < u2.heap.size := by omega
  have hru : ¬ rb = u2.heap.size := by omega
  have hto := hR2.c5
  have hnn := hR2.c4
  have hf1 := hR2.fr 4 (by omega)
  have hf2 := hR2.fr 5 (by omega)
  subst h2
  (try dsimp only at hto)
  have HM := Lib.hid (mayt_c an)
  rw [h3] at HM
  have hrg : ¬ rb = w.heap.size + 1 := by omega
  have hn_0 := hnn; have fn_0 := hf1; have ho_0 := hto; have fo_0 := hf2; clear hnn hf1 hto hf2
  have HG := Lib.hid hB
  have HR := Lib.hid hR2
  clear hR2
  have hbr : Below u2.heap.size u2 u2 := Below.refl _ _
  go_wp2_with fail
  ((with_reducible refine (HM.out _).mono ?_); rintro _ y ⟨rfl, hb⟩)
  have T : CF y (w.heap.size + 1) 0 (.int .i64 0) ∧ CF y (w.heap.size + 1) 1 (.int .i64 0) ∧ CC y w.heap.size 3 4 (.int .i64 wl) (.int .i64 wc) ∧ CC y u1.heap.size 2 3 (.int .i64 an) (.int .i64 al) ∧ y.cell? ⟨u1.heap.size, 4, none⟩ = some (.int .i64 ac) ∧ CF y rb 4 (.int .i64 stn) ∧ CF y rb 5 (.bool false) := by
      refine ⟨⟨?_, ?_⟩, ⟨?_, ?_⟩, ⟨?_, ?_⟩, ⟨?_, ?_⟩, ?_, ⟨?_, ?_⟩, ⟨?_, ?_⟩⟩ <;> first | (refine kc hb ?_ <;> (go_simp; first | done | rfl)) | (refine kfz hb ?_ ?_ <;> first | (go_size; done) | (go_simp; done))
  have hz := hb.size
  (try simp only [World.size_alloc, World.size_setCell, World.size_drew] at hz)
  have L : w.heap.size + 1 < y.heap.size ∧ w.heap.size < y.heap.size ∧ u1.heap.size < y.heap.size ∧ rb < y.heap.size ∧ rb < y.heap.size := by omega
  have hB' : Below u2.heap.size u2 y := by
      refine kb ?_ hb
      go_grown
  clear hz_0 fz_0 hz_1 fz_1 hx_3 hx_4 hf_2 hf_3 hf_4 hlz hlx hlf hnz0 hnz1 hkz1 hnz2 hkz2 hnx2 hkx2 hnf0 hnf1 hkf1 hnf2 hkf2 hB hsz
  clear hb hz
  obtain ⟨⟨hz_0, fz_0⟩, ⟨hz_1, fz_1⟩, ⟨hx_3, hx_4⟩, ⟨hf_2, hf_3⟩, hf_4, ⟨hn_0, fn_0⟩, ⟨ho_0, fo_0⟩⟩ := T
  obtain ⟨hlz, hlx, hlf, hln, hlo⟩ := L
  obtain ⟨hnz0, hnz1, hkz1, hnz2, hkz2⟩ := ap1f hlz
  have hnx2 : ¬ (w.heap.size = y.heap.size + 1 + 1) := by omega
  have hkx2 : w.heap.size < y.heap.size + 1 + 1 := by omega
  obtain ⟨hnf0, hnf1, hkf1, hnf2, hkf2⟩ := ap0 hlf
  obtain ⟨hnn0, hnn1, hkn1, hnn2, hkn2⟩ := ap0 hln
  have hB := hB'; clear hB'
  have hsz := hB.size
  have HT := Lib.hid ((Tur.of_grown (v := sv) HG.out hlt hsz0).trans (Tur.of_below hB hlt HR.out.sz))
  have HRy := Lib.hid (HR.out.on hB)
  go_wp2
  refine bodyPost_ret (v := .tuple #[.agg #[.int .i64 0, .int .i64 0], .int .i64 0]) (by simp [results, Tryz.results56, go_sem, hz_0, hz_1] <;> first | done | rfl) rfl (setEnd_ok HF.out.1 ?_ ((((HT.out.set _ _).set _ _).setn hlt hsz0 (by dsimp only; omega) _).setn hlt hsz0 (by dsimp only; omega) _))
  rw [HF.out.2.1, HF.out.2.2]
  exact ((HRy.out.setT an true).setl HLOW hkr (by dsimp only; omega) _).setl HLOW hkr (by dsimp only; omega) _
end Go.Proofs.YtjcmblbnbpikfaaGreatDoor
