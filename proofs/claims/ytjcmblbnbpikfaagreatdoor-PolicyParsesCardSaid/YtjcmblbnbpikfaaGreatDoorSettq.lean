/- Layer 7, the program's -/
import Derived.Test.YtjcmblbnbpikfaaGreatDoorSpanp
set_option linter.unusedSimpArgs false
set_option linter.unusedVariables false
set_option maxRecDepth 100000
namespace Go.Proofs.YtjcmblbnbpikfaaGreatDoor
open Lib (hid)
open Go.RowKit Go.PlainAid

structure SeO where
 e : Int
 li : Int
 co : Int
 n : Int
 r : List Tk
def settM (told : Bool) (may : Int → Bool) (word : Tk) : List Tk → SeO
 | [] => ⟨11, 0, 0, 0, []⟩
 | a :: r => if a.k = 2 then (match r with
   | [] => ⟨11, 0, 0, 0, []⟩
   | z :: r2 => if z.k = 4 then (if told = true then ⟨16, word.line, word.col, 0, []⟩ else if may a.n = true then ⟨0, 0, 0, a.n, r2⟩ else ⟨10, a.line, a.col, 0, []⟩) else ⟨11, z.line, z.col, 0, []⟩)
  else ⟨11, a.line, a.col, 0, []⟩
def SetEnd (rb S0 : Nat) (v : Value) (w : World) (s2 : SeO → St) (o : SeO) : Ending → World → Prop := fun e w' =>
 (o.e ≠ 0 → e = .returned (.tuple #[.agg #[.int .i64 o.li, .int .i64 o.co], .int .i64 o.e]) ∧ Tur rb S0 v w w') ∧
 (o.e = 0 → e = .returned (.tuple #[.agg #[.int .i64 0, .int .i64 0], .int .i64 0]) ∧ Rd rb S0 w' (s2 o) ∧ Tur rb S0 v w w')
theorem setEnd_err {rb S0 : Nat} {v : Value} {w w' : World} {s2 : SeO → St} {o : SeO} {E L C : Int} (h1 : o.e = E) (h2 : o.li = L) (h3 : o.co = C) (hE : E ≠ 0) (ht : Tur rb S0 v w w') : SetEnd rb S0 v w s2 o (.returned (.tuple #[.agg #[.int .i64 L, .int .i64 C], .int .i64 E])) w' := by
 subst h1; subst h2; subst h3
 exact ⟨fun _ => ⟨rfl, ht⟩, fun h => absurd h hE⟩
theorem setEnd_ok {rb S0 : Nat} {v : Value} {w w' : World} {s2 : SeO → St} {o : SeO} (h1 : o.e = 0) (hR : Rd rb S0 w' (s2 o)) (ht : Tur rb S0 v w w') : SetEnd rb S0 v w s2 o (.returned (.tuple #[.agg #[.int .i64 0, .int .i64 0], .int .i64 0])) w' :=
 ⟨fun h => absurd h1 h, fun _ => ⟨rfl, hR, ht⟩⟩
theorem Tur.set {rb S0 : Nat} {y : Value} {w u : World} (h : Tur rb S0 y w u) (o : Nat) (v : Value) : Tur rb S0 y w (u.setCell ⟨rb, o, none⟩ v) :=
 ⟨h.below.setCell (Nat.le_refl _) v, fun b hb hne => (Below.heap_setCell u _ v b (by exact hne)).trans (h.keep b hb hne), fun b hb hne hn => (Below.heap_setCell u _ v b (by exact hne)).trans (h.keep2 b hb hne hn)⟩
theorem Rd.setD {rb S0 : Nat} {w : World} {l : List Tk} {sp : List Mk} {sv : Value} {dn tn : Int} {db tb : Bool} (h : Rd rb S0 w ⟨l, sp, sv, dn, db, tn, tb⟩) (n : Int) (b : Bool) :
  Rd rb S0 ((w.setCell ⟨rb, 2, none⟩ (.int .i64 n)).setCell ⟨rb, 3, none⟩ (.bool b)) ⟨l, sp, sv, n, b, tn, tb⟩ := by
 have k0 := h.lt
 obtain ⟨x, a1, a2, a3⟩ := h.left
 obtain ⟨b1, b2⟩ := h.row
 obtain ⟨c2, c3, c4, c5⟩ := And.intro h.c2 (And.intro h.c3 (And.intro h.c4 h.c5))
 have ot : ∀ o y, o ≠ 2 → o ≠ 3 → w.cell? ⟨rb, o, none⟩ = some y → ((w.setCell ⟨rb, 2, none⟩ (.int .i64 n)).setCell ⟨rb, 3, none⟩ (.bool b)).cell? ⟨rb, o, none⟩ = some y := fun o y h2 h3 hy => by
  rw [World.cell?_setCell_other _ _ _ _ (by intro e; cases e; exact h3 rfl), World.cell?_setCell_other _ _ _ _ (by intro e; cases e; exact h2 rfl)]; exact hy
 refine ⟨⟨x, ot 0 _ (by omega) (by omega) a1, ?_, a3⟩, ⟨ot 1 _ (by omega) (by omega) b1, own_other (own_other b2 k0) k0⟩, ?_, ?_, ot 4 _ (by omega) (by omega) c4, ot 5 _ (by omega) (by omega) c5, fun o ho => by rw [World.frozen?_setCell, World.frozen?_setCell]; exact h.fr o ho, k0, by rw [World.size_setCell, World.size_setCell]; exact h.sz⟩
 ·rcases a2 with a2 | ⟨g, q, cap, e, hc, a2⟩
  ·exact .inl a2
  ·have hg := a3 g (by rw [e]; rfl)
   have hs : ∀ o' y, w.cell? ⟨g, o', none⟩ = some y → ((w.setCell ⟨rb, 2, none⟩ (.int .i64 n)).setCell ⟨rb, 3, none⟩ (.bool b)).cell? ⟨g, o', none⟩ = some y := fun o' y hy => (World.cell?_of_block ((Below.heap_setCell _ _ _ g (by show g ≠ rb; omega)).trans (Below.heap_setCell w _ _ g (by show g ≠ rb; omega)))).trans hy
   exact .inr ⟨g, q, cap, e, hc, fun j x hx => by obtain ⟨c0, c1, c2, c3, c4⟩ := a2 j x hx; exact ⟨hs _ _ c0, hs _ _ c1, hs _ _ c2, hs _ _ c3, hs _ _ c4⟩⟩
 ·rw [World.cell?_setCell_other _ _ _ _ (by intro e; cases e)]
  exact World.cell?_setCell_same _ _ _ c2
 ·exact World.cell?_setCell_same _ _ _ (by rw [World.cell?_setCell_other _ _ _ _ (by intro e; cases e)]; exact c3)
theorem Rd.setT {rb S0 : Nat} {w : World} {l : List Tk} {sp : List Mk} {sv : Value} {dn tn : Int} {db tb : Bool} (h : Rd rb S0 w ⟨l, sp, sv, dn, db, tn, tb⟩) (n : Int) (b : Bool) :
  Rd rb S0 ((w.setCell ⟨rb, 4, none⟩ (.int .i64 n)).setCell ⟨rb, 5, none⟩ (.bool b)) ⟨l, sp, sv, dn, db, n, b⟩ := by
 have k0 := h.lt
 obtain ⟨x, a1, a2, a3⟩ := h.left
 obtain ⟨b1, b2⟩ := h.row
 obtain ⟨c2, c3, c4, c5⟩ := And.intro h.c2 (And.intro h.c3 (And.intro h.c4 h.c5))
 have ot : ∀ o y, o ≠ 4 → o ≠ 5 → w.cell? ⟨rb, o, none⟩ = some y → ((w.setCell ⟨rb, 4, none⟩ (.int .i64 n)).setCell ⟨rb, 5, none⟩ (.bool b)).cell? ⟨rb, o, none⟩ = some y := fun o y h2 h3 hy => by
  rw [World.cell?_setCell_other _ _ _ _ (by intro e; cases e; exact h3 rfl), World.cell?_setCell_other _ _ _ _ (by intro e; cases e; exact h2 rfl)]; exact hy
 refine ⟨⟨x, ot 0 _ (by omega) (by omega) a1, ?_, a3⟩, ⟨ot 1 _ (by omega) (by omega) b1, own_other (own_other b2 k0) k0⟩, ot 2 _ (by omega) (by omega) c2, ot 3 _ (by omega) (by omega) c3, ?_, ?_, fun o ho => by rw [World.frozen?_setCell, World.frozen?_setCell]; exact h.fr o ho, k0, by rw [World.size_setCell, World.size_setCell]; exact h.sz⟩
 ·rcases a2 with a2 | ⟨g, q, cap, e, hc, a2⟩
  ·exact .inl a2
  ·have hg := a3 g (by rw [e]; rfl)
   have hs : ∀ o' y, w.cell? ⟨g, o', none⟩ = some y → ((w.setCell ⟨rb, 4, none⟩ (.int .i64 n)).setCell ⟨rb, 5, none⟩ (.bool b)).cell? ⟨g, o', none⟩ = some y := fun o' y hy => (World.cell?_of_block ((Below.heap_setCell _ _ _ g (by show g ≠ rb; omega)).trans (Below.heap_setCell w _ _ g (by show g ≠ rb; omega)))).trans hy
   exact .inr ⟨g, q, cap, e, hc, fun j x hx => by obtain ⟨c0, c1, c2, c3, c4⟩ := a2 j x hx; exact ⟨hs _ _ c0, hs _ _ c1, hs _ _ c2, hs _ _ c3, hs _ _ c4⟩⟩
 ·rw [World.cell?_setCell_other _ _ _ _ (by intro e; cases e)]
  exact World.cell?_setCell_same _ _ _ c4
 ·exact World.cell?_setCell_same _ _ _ (by rw [World.cell?_setCell_other _ _ _ _ (by intro e; cases e)]; exact c5)
set_option maxHeartbeats 8000000 in
theorem settD_A (ak an al ac : Int) (ax : List UInt8) (rs : List Tk) (wk wn wl wc : Int) (wx : List UInt8) (ssp : List Mk) (sv : Value) (sdn stn : Int) (sdb stb : Bool) (h0 : ¬ ak = 2) (rb S0 : Nat) (w : World) (hR : Rd rb S0 w ⟨⟨ak, ax, an, al, ac⟩ :: rs, ssp, sv, sdn, sdb, stn, stb⟩) :
  Calls Tryz.prog 56 #[.pointer (some ⟨rb, 0, none⟩), tkV ⟨wk, wx, wn, wl, wc⟩, .pointer (some ⟨rb, 2, none⟩), .func (.func 27) #[] #[]] w (SetEnd rb S0 sv w (fun o => ⟨o.r, ssp, sv, o.n, true, stn, stb⟩) (settM sdb mayD ⟨wk, wx, wn, wl, wc⟩ (⟨ak, ax, an, al, ac⟩ :: rs))) := by
 have hlt := hR.lt
 have hsz0 := hR.sz
 have hkr : rb < w.heap.size := by omega
 have hrw : ¬ rb = w.heap.size := by omega
 have hrw1 : ¬ rb = w.heap.size + 1 := by omega
 have HLOW := hid (show ∀ g, sv.ownBlock = some g → g < w.heap.size from fun g h => (hR.row.2.lt g h).2)
 obtain ⟨O, hO⟩ : ∃ O, settM sdb mayD ⟨wk, wx, wn, wl, wc⟩ (⟨ak, ax, an, al, ac⟩ :: rs) = O := ⟨_, rfl⟩
 rw [hO]
 have HF := hid (show O.e = 11 ∧ O.li = al ∧ O.co = ac from by rw [← hO]; simp [settM, h0])
 clear hO
 have ht0 : (ak == 2) = false := by exact beq_eq_false_iff_ne.2 h0
 have HT0 := hid (fun W hR => (takei_c 2 rb S0 W ⟨⟨ak, ax, an, al, ac⟩ :: rs, ssp, sv, sdn, sdb, stn, stb⟩ ⟨ak, ax, an, al, ac⟩ (rs) rfl hR).mono (fun e w' h => h.2 ht0))
 (try dsimp only [tkV] at HT0)
 clear ht0
 unfold tkV
 (try dsimp only)
 generalize txB ax = aT at *
 generalize txB wx = wT at *
 go_enter Tryz.func56, Tryz.ntmps56
 go_wp2_with fail
 ((with_reducible refine (HT0.out _ (by (with_reducible repeat (first | assumption | refine Rd.al ?_ _ | (refine Rd.setl ?_ HLOW hkr ?_ _; rotate_left; (dsimp only; omega)))))).mono ?_); rintro _ u1 ⟨rfl, hR1, hb⟩)
 have T : CF u1 (w.heap.size + 1) 0 (.int .i64 0) ∧ CF u1 (w.heap.size + 1) 1 (.int .i64 0) ∧ CC u1 w.heap.size 3 4 (.int .i64 wl) (.int .i64 wc) := by
   refine ⟨⟨?_, ?_⟩, ⟨?_, ?_⟩, ⟨?_, ?_⟩⟩ <;> first | (refine kg hb (by omega) ?_; go_simp; first | done | rfl) | (refine kgf hb (by omega) (by first | go_size | omega | (simp only [szA]; omega)) ?_; go_simp; first | done | rfl)
 have hz := hb.size
 (try simp only [szA] at hz)
 have L : w.heap.size + 1 < u1.heap.size ∧ w.heap.size < u1.heap.size := by omega
 have hB' : w.grownBy u1 (some rb) := by
   refine World.grownBy.trans ?_ hb
   (with_reducible repeat (first | assumption | exact World.grownBy.refl _ _ | refine grown_al ?_ _ | (refine grown_new ?_ ?_; rotate_left; (dsimp only; omega))))
 clear hb hz
 obtain ⟨⟨hz_0, fz_0⟩, ⟨hz_1, fz_1⟩, ⟨hx_3, hx_4⟩⟩ := T
 obtain ⟨hlz, hlx⟩ := L
 obtain ⟨hnz0, hnz1, hkz1, hnz2, hkz2⟩ := ap1f hlz
 have hnx2 : ¬ (w.heap.size = u1.heap.size + 1 + 1) := by omega
 have hkx2 : w.heap.size < u1.heap.size + 1 + 1 := by omega
 have hB := hB'; clear hB'
 have hsz := hB.size
 clear hR
 (try dsimp only at hR1)
 have hw1 : w.heap.size + 2 ≤ u1.heap.size := by omega
 have hv0 : ¬ (w.heap.size = u1.heap.size) := by omega
 have hy0 : ¬ (u1.heap.size = w.heap.size) := by omega
 have hv1 : ¬ (w.heap.size + 1 = u1.heap.size) := by omega
 have hy1 : ¬ (u1.heap.size = w.heap.size + 1) := by omega
 go_wp2_with fail
 ((with_reducible refine (wrong_c rb S0 _ ⟨⟨ak, ax, an, al, ac⟩ :: rs, ssp, sv, sdn, sdb, stn, stb⟩ ⟨ak, ax, an, al, ac⟩ rs rfl (by (with_reducible repeat (first | assumption | refine Rd.al ?_ _ | (refine Rd.setl ?_ HLOW hkr ?_ _; rotate_left; (dsimp only; omega)))))).mono ?_); rintro _ u2 ⟨rfl, hb⟩)
 have T : CF u2 (w.heap.size + 1) 0 (.int .i64 0) ∧ CF u2 (w.heap.size + 1) 1 (.int .i64 0) ∧ CC u2 w.heap.size 3 4 (.int .i64 wl) (.int .i64 wc) := by
   refine ⟨⟨?_, ?_⟩, ⟨?_, ?_⟩, ⟨?_, ?_⟩⟩ <;> first | (refine kg hb (by omega) ?_; go_simp; first | done | rfl) | (refine kgf hb (by omega) (by first | go_size | omega | (simp only [szA]; omega)) ?_; go_simp; first | done | rfl)
 have hz := hb.size
 (try simp only [szA] at hz)
 have L : w.heap.size + 1 < u2.heap.size ∧ w.heap.size < u2.heap.size := by omega
 have hB' : w.grownBy u2 (some rb) := by
   refine World.grownBy.trans ?_ hb
   (with_reducible repeat (first | assumption | exact World.grownBy.refl _ _ | refine grown_al ?_ _ | (refine grown_new ?_ ?_; rotate_left; (dsimp only; omega))))
 clear hz_0 fz_0 hz_1 fz_1 hx_3 hx_4 hlz hlx hnz0 hnz1 hkz1 hnz2 hkz2 hnx2 hkx2 hB hsz
 clear hb hz
 obtain ⟨⟨hz_0, fz_0⟩, ⟨hz_1, fz_1⟩, ⟨hx_3, hx_4⟩⟩ := T
 obtain ⟨hlz, hlx⟩ := L
 obtain ⟨hnz0, hnz1, hkz1, hnz2, hkz2⟩ := ap1f hlz
 have hnx2 : ¬ (w.heap.size = u2.heap.size + 1 + 1) := by omega
 have hkx2 : w.heap.size < u2.heap.size + 1 + 1 := by omega
 have hB := hB'; clear hB'
 have hsz := hB.size
 go_wp2
 refine bodyPost_ret (v := .tuple #[.agg #[.int .i64 al, .int .i64 ac], .int .i64 11]) (by simp [results, Tryz.results56, go_sem, hz_0, hz_1] <;> first | done | rfl) rfl (setEnd_err HF.out.1 HF.out.2.1 HF.out.2.2 (by decide) (Tur.of_grown (by (with_reducible repeat (first | assumption | exact World.grownBy.refl _ _ | refine grown_al ?_ _ | (refine grown_new ?_ ?_; rotate_left; (dsimp only; omega))))) hlt hsz0))
set_option maxHeartbeats 8000000 in
theorem settD_Z (ak an al ac : Int) (ax : List UInt8) (zk zn zl zc : Int) (zx : List UInt8) (rs : List Tk) (wk wn wl wc : Int) (wx : List UInt8) (ssp : List Mk) (sv : Value) (sdn stn : Int) (sdb stb : Bool) (h0 : ak = 2) (h1 : ¬ zk = 4) (rb S0 : Nat) (w : World) (hR : Rd rb S0 w ⟨⟨ak, ax, an, al, ac⟩ :: ⟨zk, zx, zn, zl, zc⟩ :: rs, ssp, sv, sdn, sdb, stn, stb⟩) :
  Calls Tryz.prog 56 #[.pointer (some ⟨rb, 0, none⟩), tkV ⟨wk, wx, wn, wl, wc⟩, .pointer (some ⟨rb, 2, none⟩), .func (.func 27) #[] #[]] w (SetEnd rb S0 sv w (fun o => ⟨o.r, ssp, sv, o.n, true, stn, stb⟩) (settM sdb mayD ⟨wk, wx, wn, wl, wc⟩ (⟨ak, ax, an, al, ac⟩ :: ⟨zk, zx, zn, zl, zc⟩ :: rs))) := by
 have hlt := hR.lt
 have hsz0 := hR.sz
 have hkr : rb < w.heap.size := by omega
 have hrw : ¬ rb = w.heap.size := by omega
 have hrw1 : ¬ rb = w.heap.size + 1 := by omega
 have HLOW := hid (show ∀ g, sv.ownBlock = some g → g < w.heap.size from fun g h => (hR.row.2.lt g h).2)
 obtain ⟨O, hO⟩ : ∃ O, settM sdb mayD ⟨wk, wx, wn, wl, wc⟩ (⟨ak, ax, an, al, ac⟩ :: ⟨zk, zx, zn, zl, zc⟩ :: rs) = O := ⟨_, rfl⟩
 rw [hO]
 have HF := hid (show O.e = 11 ∧ O.li = zl ∧ O.co = zc from by rw [← hO]; simp [settM, h0, h1])
 clear hO
 have ht0 : (ak == 2) = true := by rw [h0]; rfl
 have HT0 := hid (fun W hR => (takei_c 2 rb S0 W ⟨⟨ak, ax, an, al, ac⟩ :: ⟨zk, zx, zn, zl, zc⟩ :: rs, ssp, sv, sdn, sdb, stn, stb⟩ ⟨ak, ax, an, al, ac⟩ (⟨zk, zx, zn, zl, zc⟩ :: rs) rfl hR).mono (fun e w' h => h.1 ht0))
 (try dsimp only [tkV] at HT0)
 have ht1 : (zk == 4) = false := by exact beq_eq_false_iff_ne.2 h1
 have HT1 := hid (fun W hR => (takei_c 4 rb S0 W ⟨⟨zk, zx, zn, zl, zc⟩ :: rs, ssp, sv, sdn, sdb, stn, stb⟩ ⟨zk, zx, zn, zl, zc⟩ (rs) rfl hR).mono (fun e w' h => h.2 ht1))
 (try dsimp only [tkV] at HT1)
 clear ht0 ht1
 unfold tkV
 (try dsimp only)
 generalize txB ax = aT at *
 generalize txB zx = zT at *
 generalize txB wx = wT at *
 go_enter Tryz.func56, Tryz.ntmps56
 go_wp2_with fail
 ((with_reducible refine (HT0.out _ (by (with_reducible repeat (first | assumption | refine Rd.al ?_ _ | (refine Rd.setl ?_ HLOW hkr ?_ _; rotate_left; (dsimp only; omega)))))).mono ?_); rintro _ u1 ⟨rfl, hR1, hb⟩)
 have T : CF u1 (w.heap.size + 1) 0 (.int .i64 0) ∧ CF u1 (w.heap.size + 1) 1 (.int .i64 0) ∧ CC u1 w.heap.size 3 4 (.int .i64 wl) (.int .i64 wc) := by
   refine ⟨⟨?_, ?_⟩, ⟨?_, ?_⟩, ⟨?_, ?_⟩⟩ <;> first | (refine kg hb (by omega) ?_; go_simp; first | done | rfl) | (refine kgf hb (by omega) (by first | go_size | omega | (simp only [szA]; omega)) ?_; go_simp; first | done | rfl)
 have hz := hb.size
 (try simp only [szA] at hz)
 have L : w.heap.size + 1 < u1.heap.size ∧ w.heap.size < u1.heap.size := by omega
 have hB' : w.grownBy u1 (some rb) := by
   refine World.grownBy.trans ?_ hb
   (with_reducible repeat (first | assumption | exact World.grownBy.refl _ _ | refine grown_al ?_ _ | (refine grown_new ?_ ?_; rotate_left; (dsimp only; omega))))
 clear hb hz
 obtain ⟨⟨hz_0, fz_0⟩, ⟨hz_1, fz_1⟩, ⟨hx_3, hx_4⟩⟩ := T
 obtain ⟨hlz, hlx⟩ := L
 obtain ⟨hnz0, hnz1, hkz1, hnz2, hkz2⟩ := ap1f hlz
 have hnx2 : ¬ (w.heap.size = u1.heap.size + 1 + 1) := by omega
 have hkx2 : w.heap.size < u1.heap.size + 1 + 1 := by omega
 have hB := hB'; clear hB'
 have hsz := hB.size
 clear hR
 (try dsimp only at hR1)
 have hw1 : w.heap.size + 2 ≤ u1.heap.size := by omega
 have hv0 : ¬ (w.heap.size = u1.heap.size) := by omega
 have hy0 : ¬ (u1.heap.size = w.heap.size) := by omega
 have hv1 : ¬ (w.heap.size + 1 = u1.heap.size) := by omega
 have hy1 : ¬ (u1.heap.size = w.heap.size + 1) := by omega
 go_wp2_with fail
 ((with_reducible refine (HT1.out _ (by (with_reducible repeat (first | assumption | refine Rd.al ?_ _ | (refine Rd.setl ?_ HLOW hkr ?_ _; rotate_left; (dsimp only; omega)))))).mono ?_); rintro _ u2 ⟨rfl, hR2, hb⟩)
 have T : CF u2 (w.heap.size + 1) 0 (.int .i64 0) ∧ CF u2 (w.heap.size + 1) 1 (.int .i64 0) ∧ CC u2 w.heap.size 3 4 (.int .i64 wl) (.int .i64 wc) ∧ CC u2 u1.heap.size 2 3 (.int .i64 an) (.int .i64 al) ∧ u2.cell? ⟨u1.heap.size, 4, none⟩ = some (.int .i64 ac) := by
   refine ⟨⟨?_, ?_⟩, ⟨?_, ?_⟩, ⟨?_, ?_⟩, ⟨?_, ?_⟩, ?_⟩ <;> first | (refine kg hb (by omega) ?_; go_simp; first | done | rfl) | (refine kgf hb (by omega) (by first | go_size | omega | (simp only [szA]; omega)) ?_; go_simp; first | done | rfl)
 have hz := hb.size
 (try simp only [szA] at hz)
 have L : w.heap.size + 1 < u2.heap.size ∧ w.heap.size < u2.heap.size ∧ u1.heap.size < u2.heap.size := by omega
 have hB' : w.grownBy u2 (some rb) := by
   refine World.grownBy.trans ?_ hb
   (with_reducible repeat (first | assumption | exact World.grownBy.refl _ _ | refine grown_al ?_ _ | (refine grown_new ?_ ?_; rotate_left; (dsimp only; omega))))
 clear hz_0 fz_0 hz_1 fz_1 hx_3 hx_4 hlz hlx hnz0 hnz1 hkz1 hnz2 hkz2 hnx2 hkx2 hB hsz
 clear hb hz
 obtain ⟨⟨hz_0, fz_0⟩, ⟨hz_1, fz_1⟩, ⟨hx_3, hx_4⟩, ⟨hf_2, hf_3⟩, hf_4⟩ := T
 obtain ⟨hlz, hlx, hlf⟩ := L
 obtain ⟨hnz0, hnz1, hkz1, hnz2, hkz2⟩ := ap1f hlz
 have hnx2 : ¬ (w.heap.size = u2.heap.size + 1 + 1) := by omega
 have hkx2 : w.heap.size < u2.heap.size + 1 + 1 := by omega
 obtain ⟨hnf0, hnf1, hkf1, hnf2, hkf2⟩ := ap0 hlf
 have hB := hB'; clear hB'
 have hsz := hB.size
 clear hR1
 (try dsimp only at hR2)
 go_wp2_with fail
 ((with_reducible refine (wrong_c rb S0 _ ⟨⟨zk, zx, zn, zl, zc⟩ :: rs, ssp, sv, sdn, sdb, stn, stb⟩ ⟨zk, zx, zn, zl, zc⟩ rs rfl (by (with_reducible repeat (first | assumption | refine Rd.al ?_ _ | (refine Rd.setl ?_ HLOW hkr ?_ _; rotate_left; (dsimp only; omega)))))).mono ?_); rintro _ u3 ⟨rfl, hb⟩)
 have T : CF u3 (w.heap.size + 1) 0 (.int .i64 0) ∧ CF u3 (w.heap.size + 1) 1 (.int .i64 0) ∧ CC u3 w.heap.size 3 4 (.int .i64 wl) (.int .i64 wc) ∧ CC u3 u1.heap.size 2 3 (.int .i64 an) (.int .i64 al) ∧ u3.cell? ⟨u1.heap.size, 4, none⟩ = some (.int .i64 ac) := by
   refine ⟨⟨?_, ?_⟩, ⟨?_, ?_⟩, ⟨?_, ?_⟩, ⟨?_, ?_⟩, ?_⟩ <;> first | (refine kg hb (by omega) ?_; go_simp; first | done | rfl) | (refine kgf hb (by omega) (by first | go_size | omega | (simp only [szA]; omega)) ?_; go_simp; first | done | rfl)
 have hz := hb.size
 (try simp only [szA] at hz)
 have L : w.heap.size + 1 < u3.heap.size ∧ w.heap.size < u3.heap.size ∧ u1.heap.size < u3.heap.size := by omega
 have hB' : w.grownBy u3 (some rb) := by
   refine World.grownBy.trans ?_ hb
   (with_reducible repeat (first | assumption | exact World.grownBy.refl _ _ | refine grown_al ?_ _ | (refine grown_new ?_ ?_; rotate_left; (dsimp only; omega))))
 clear hz_0 fz_0 hz_1 fz_1 hx_3 hx_4 hf_2 hf_3 hf_4 hlz hlx hlf hnz0 hnz1 hkz1 hnz2 hkz2 hnx2 hkx2 hnf0 hnf1 hkf1 hnf2 hkf2 hB hsz
 clear hb hz
 obtain ⟨⟨hz_0, fz_0⟩, ⟨hz_1, fz_1⟩, ⟨hx_3, hx_4⟩, ⟨hf_2, hf_3⟩, hf_4⟩ := T
 obtain ⟨hlz, hlx, hlf⟩ := L
 obtain ⟨hnz0, hnz1, hkz1, hnz2, hkz2⟩ := ap1f hlz
 have hnx2 : ¬ (w.heap.size = u3.heap.size + 1 + 1) := by omega
 have hkx2 : w.heap.size < u3.heap.size + 1 + 1 := by omega
 obtain ⟨hnf0, hnf1, hkf1, hnf2, hkf2⟩ := ap0 hlf
 have hB := hB'; clear hB'
 have hsz := hB.size
 go_wp2
 refine bodyPost_ret (v := .tuple #[.agg #[.int .i64 zl, .int .i64 zc], .int .i64 11]) (by simp [results, Tryz.results56, go_sem, hz_0, hz_1] <;> first | done | rfl) rfl (setEnd_err HF.out.1 HF.out.2.1 HF.out.2.2 (by decide) (Tur.of_grown (by (with_reducible repeat (first | assumption | exact World.grownBy.refl _ _ | refine grown_al ?_ _ | (refine grown_new ?_ ?_; rotate_left; (dsimp only; omega))))) hlt hsz0))
set_option maxHeartbeats 8000000 in
theorem settD_T (ak an al ac : Int) (ax : List UInt8) (zk zn zl zc : Int) (zx : List UInt8) (rs : List Tk) (wk wn wl wc : Int) (wx : List UInt8) (ssp : List Mk) (sv : Value) (sdn stn : Int) (sdb stb : Bool) (h0 : ak = 2) (h1 : zk = 4) (h2 : sdb = true) (rb S0 : Nat) (w : World) (hR : Rd rb S0 w ⟨⟨ak, ax, an, al, ac⟩ :: ⟨zk, zx, zn, zl, zc⟩ :: rs, ssp, sv, sdn, sdb, stn, stb⟩) :
  Calls Tryz.prog 56 #[.pointer (some ⟨rb, 0, none⟩), tkV ⟨wk, wx, wn, wl, wc⟩, .pointer (some ⟨rb, 2, none⟩), .func (.func 27) #[] #[]] w (SetEnd rb S0 sv w (fun o => ⟨o.r, ssp, sv, o.n, true, stn, stb⟩) (settM sdb mayD ⟨wk, wx, wn, wl, wc⟩ (⟨ak, ax, an, al, ac⟩ :: ⟨zk, zx, zn, zl, zc⟩ :: rs))) := by
 have hlt := hR.lt
 have hsz0 := hR.sz
 have hkr : rb < w.heap.size := by omega
 have hrw : ¬ rb = w.heap.size := by omega
 have hrw1 : ¬ rb = w.heap.size + 1 := by omega
 have HLOW := hid (show ∀ g, sv.ownBlock = some g → g < w.heap.size from fun g h => (hR.row.2.lt g h).2)
 obtain ⟨O, hO⟩ : ∃ O, settM sdb mayD ⟨wk, wx, wn, wl, wc⟩ (⟨ak, ax, an, al, ac⟩ :: ⟨zk, zx, zn, zl, zc⟩ :: rs) = O := ⟨_, rfl⟩
 rw [hO]
 have HF := hid (show O.e = 16 ∧ O.li = wl ∧ O.co = wc from by rw [← hO]; simp [settM, h0, h1, h2])
 clear hO
 have ht0 : (ak == 2) = true := by rw [h0]; rfl
 have HT0 := hid (fun W hR => (takei_c 2 rb S0 W ⟨⟨ak, ax, an, al, ac⟩ :: ⟨zk, zx, zn, zl, zc⟩ :: rs, ssp, sv, sdn, sdb, stn, stb⟩ ⟨ak, ax, an, al, ac⟩ (⟨zk, zx, zn, zl, zc⟩ :: rs) rfl hR).mono (fun e w' h => h.1 ht0))
 (try dsimp only [tkV] at HT0)
 have ht1 : (zk == 4) = true := by rw [h1]; rfl
 have HT1 := hid (fun W hR => (takei_c 4 rb S0 W ⟨⟨zk, zx, zn, zl, zc⟩ :: rs, ssp, sv, sdn, sdb, stn, stb⟩ ⟨zk, zx, zn, zl, zc⟩ (rs) rfl hR).mono (fun e w' h => h.1 ht1))
 (try dsimp only [tkV] at HT1)
 clear ht0 ht1
 unfold tkV
 (try dsimp only)
 generalize txB ax = aT at *
 generalize txB zx = zT at *
 generalize txB wx = wT at *
 go_enter Tryz.func56, Tryz.ntmps56
 go_wp2_with fail
 ((with_reducible refine (HT0.out _ (by (with_reducible repeat (first | assumption | refine Rd.al ?_ _ | (refine Rd.setl ?_ HLOW hkr ?_ _; rotate_left; (dsimp only; omega)))))).mono ?_); rintro _ u1 ⟨rfl, hR1, hb⟩)
 have T : CF u1 (w.heap.size + 1) 0 (.int .i64 0) ∧ CF u1 (w.heap.size + 1) 1 (.int .i64 0) ∧ CC u1 w.heap.size 3 4 (.int .i64 wl) (.int .i64 wc) := by
   refine ⟨⟨?_, ?_⟩, ⟨?_, ?_⟩, ⟨?_, ?_⟩⟩ <;> first | (refine kg hb (by omega) ?_; go_simp; first | done | rfl) | (refine kgf hb (by omega) (by first | go_size | omega | (simp only [szA]; omega)) ?_; go_simp; first | done | rfl)
 have hz := hb.size
 (try simp only [szA] at hz)
 have L : w.heap.size + 1 < u1.heap.size ∧ w.heap.size < u1.heap.size := by omega
 have hB' : w.grownBy u1 (some rb) := by
   refine World.grownBy.trans ?_ hb
   (with_reducible repeat (first | assumption | exact World.grownBy.refl _ _ | refine grown_al ?_ _ | (refine grown_new ?_ ?_; rotate_left; (dsimp only; omega))))
 clear hb hz
 obtain ⟨⟨hz_0, fz_0⟩, ⟨hz_1, fz_1⟩, ⟨hx_3, hx_4⟩⟩ := T
 obtain ⟨hlz, hlx⟩ := L
 obtain ⟨hnz0, hnz1, hkz1, hnz2, hkz2⟩ := ap1f hlz
 have hnx2 : ¬ (w.heap.size = u1.heap.size + 1 + 1) := by omega
 have hkx2 : w.heap.size < u1.heap.size + 1 + 1 := by omega
 have hB := hB'; clear hB'
 have hsz := hB.size
 clear hR
 (try dsimp only at hR1)
 have hw1 : w.heap.size + 2 ≤ u1.heap.size := by omega
 have hv0 : ¬ (w.heap.size = u1.heap.size) := by omega
 have hy0 : ¬ (u1.heap.size = w.heap.size) := by omega
 have hv1 : ¬ (w.heap.size + 1 = u1.heap.size) := by omega
 have hy1 : ¬ (u1.heap.size = w.heap.size + 1) := by omega
 go_wp2_with fail
 ((with_reducible refine (HT1.out _ (by (with_reducible repeat (first | assumption | refine Rd.al ?_ _ | (refine Rd.setl ?_ HLOW hkr ?_ _; rotate_left; (dsimp only; omega)))))).mono ?_); rintro _ u2 ⟨rfl, hR2, hb⟩)
 have T : CF u2 (w.heap.size + 1) 0 (.int .i64 0) ∧ CF u2 (w.heap.size + 1) 1 (.int .i64 0) ∧ CC u2 w.heap.size 3 4 (.int .i64 wl) (.int .i64 wc) ∧ CC u2 u1.heap.size 2 3 (.int .i64 an) (.int .i64 al) ∧ u2.cell? ⟨u1.heap.size, 4, none⟩ = some (.int .i64 ac) := by
   refine ⟨⟨?_, ?_⟩, ⟨?_, ?_⟩, ⟨?_, ?_⟩, ⟨?_, ?_⟩, ?_⟩ <;> first | (refine kg hb (by omega) ?_; go_simp; first | done | rfl) | (refine kgf hb (by omega) (by first | go_size | omega | (simp only [szA]; omega)) ?_; go_simp; first | done | rfl)
 have hz := hb.size
 (try simp only [szA] at hz)
 have L : w.heap.size + 1 < u2.heap.size ∧ w.heap.size < u2.heap.size ∧ u1.heap.size < u2.heap.size := by omega
 have hB' : w.grownBy u2 (some rb) := by
   refine World.grownBy.trans ?_ hb
   (with_reducible repeat (first | assumption | exact World.grownBy.refl _ _ | refine grown_al ?_ _ | (refine grown_new ?_ ?_; rotate_left; (dsimp only; omega))))
 clear hz_0 fz_0 hz_1 fz_1 hx_3 hx_4 hlz hlx hnz0 hnz1 hkz1 hnz2 hkz2 hnx2 hkx2 hB hsz
 clear hb hz
 obtain ⟨⟨hz_0, fz_0⟩, ⟨hz_1, fz_1⟩, ⟨hx_3, hx_4⟩, ⟨hf_2, hf_3⟩, hf_4⟩ := T
 obtain ⟨hlz, hlx, hlf⟩ := L
 obtain ⟨hnz0, hnz1, hkz1, hnz2, hkz2⟩ := ap1f hlz
 have hnx2 : ¬ (w.heap.size = u2.heap.size + 1 + 1) := by omega
 have hkx2 : w.heap.size < u2.heap.size + 1 + 1 := by omega
 obtain ⟨hnf0, hnf1, hkf1, hnf2, hkf2⟩ := ap0 hlf
 have hB := hB'; clear hB'
 have hsz := hB.size
 clear hR1
 (try dsimp only at hR2)
 have hku : rb < u2.heap.size := by omega
 have hru : ¬ rb = u2.heap.size := by omega
 have hto := hR2.c3
 have hnn := hR2.c2
 have hf1 := hR2.fr 2 (by omega)
 have hf2 := hR2.fr 3 (by omega)
 subst h2
 (try dsimp only at hto)
 go_wp2
 refine bodyPost_ret (v := .tuple #[.agg #[.int .i64 wl, .int .i64 wc], .int .i64 16]) (by simp [results, Tryz.results56, go_sem, hz_0, hz_1] <;> first | done | rfl) rfl (setEnd_err HF.out.1 HF.out.2.1 HF.out.2.2 (by decide) (Tur.of_grown (by (with_reducible repeat (first | assumption | exact World.grownBy.refl _ _ | refine grown_al ?_ _ | (refine grown_new ?_ ?_; rotate_left; (dsimp only; omega))))) hlt hsz0))
set_option maxHeartbeats 8000000 in
theorem settD_R (ak an al ac : Int) (ax : List UInt8) (zk zn zl zc : Int) (zx : List UInt8) (rs : List Tk) (wk wn wl wc : Int) (wx : List UInt8) (ssp : List Mk) (sv : Value) (sdn stn : Int) (sdb stb : Bool) (h0 : ak = 2) (h1 : zk = 4) (h2 : sdb = false) (h3 : mayD an = false) (rb S0 : Nat) (w : World) (hR : Rd rb S0 w ⟨⟨ak, ax, an, al, ac⟩ :: ⟨zk, zx, zn, zl, zc⟩ :: rs, ssp, sv, sdn, sdb, stn, stb⟩) :
  Calls Tryz.prog 56 #[.pointer (some ⟨rb, 0, none⟩), tkV ⟨wk, wx, wn, wl, wc⟩, .pointer (some ⟨rb, 2, none⟩), .func (.func 27) #[] #[]] w (SetEnd rb S0 sv w (fun o => ⟨o.r, ssp, sv, o.n, true, stn, stb⟩) (settM sdb mayD ⟨wk, wx, wn, wl, wc⟩ (⟨ak, ax, an, al, ac⟩ :: ⟨zk, zx, zn, zl, zc⟩ :: rs))) := by
 have hlt := hR.lt
 have hsz0 := hR.sz
 have hkr : rb < w.heap.size := by omega
 have hrw : ¬ rb = w.heap.size := by omega
 have hrw1 : ¬ rb = w.heap.size + 1 := by omega
 have HLOW := hid (show ∀ g, sv.ownBlock = some g → g < w.heap.size from fun g h => (hR.row.2.lt g h).2)
 obtain ⟨O, hO⟩ : ∃ O, settM sdb mayD ⟨wk, wx, wn, wl, wc⟩ (⟨ak, ax, an, al, ac⟩ :: ⟨zk, zx, zn, zl, zc⟩ :: rs) = O := ⟨_, rfl⟩
 rw [hO]
 have HF := hid (show O.e = 10 ∧ O.li = al ∧ O.co = ac from by rw [← hO]; simp [settM, h0, h1, h2, h3])
 clear hO
 have ht0 : (ak == 2) = true := by rw [h0]; rfl
 have HT0 := hid (fun W hR => (takei_c 2 rb S0 W ⟨⟨ak, ax, an, al, ac⟩ :: ⟨zk, zx, zn, zl, zc⟩ :: rs, ssp, sv, sdn, sdb, stn, stb⟩ ⟨ak, ax, an, al, ac⟩ (⟨zk, zx, zn, zl, zc⟩ :: rs) rfl hR).mono (fun e w' h => h.1 ht0))
 (try dsimp only [tkV] at HT0)
 have ht1 : (zk == 4) = true := by rw [h1]; rfl
 have HT1 := hid (fun W hR => (takei_c 4 rb S0 W ⟨⟨zk, zx, zn, zl, zc⟩ :: rs, ssp, sv, sdn, sdb, stn, stb⟩ ⟨zk, zx, zn, zl, zc⟩ (rs) rfl hR).mono (fun e w' h => h.1 ht1))
 (try dsimp only [tkV] at HT1)
 clear ht0 ht1
 unfold tkV
 (try dsimp only)
 generalize txB ax = aT at *
 generalize txB zx = zT at *
 generalize txB wx = wT at *
 go_enter Tryz.func56, Tryz.ntmps56
 go_wp2_with fail
 ((with_reducible refine (HT0.out _ (by (with_reducible repeat (first | assumption | refine Rd.al ?_ _ | (refine Rd.setl ?_ HLOW hkr ?_ _; rotate_left; (dsimp only; omega)))))).mono ?_); rintro _ u1 ⟨rfl, hR1, hb⟩)
 have T : CF u1 (w.heap.size + 1) 0 (.int .i64 0) ∧ CF u1 (w.heap.size + 1) 1 (.int .i64 0) ∧ CC u1 w.heap.size 3 4 (.int .i64 wl) (.int .i64 wc) := by
   refine ⟨⟨?_, ?_⟩, ⟨?_, ?_⟩, ⟨?_, ?_⟩⟩ <;> first | (refine kg hb (by omega) ?_; go_simp; first | done | rfl) | (refine kgf hb (by omega) (by first | go_size | omega | (simp only [szA]; omega)) ?_; go_simp; first | done | rfl)
 have hz := hb.size
 (try simp only [szA] at hz)
 have L : w.heap.size + 1 < u1.heap.size ∧ w.heap.size < u1.heap.size := by omega
 have hB' : w.grownBy u1 (some rb) := by
   refine World.grownBy.trans ?_ hb
   (with_reducible repeat (first | assumption | exact World.grownBy.refl _ _ | refine grown_al ?_ _ | (refine grown_new ?_ ?_; rotate_left; (dsimp only; omega))))
 clear hb hz
 obtain ⟨⟨hz_0, fz_0⟩, ⟨hz_1, fz_1⟩, ⟨hx_3, hx_4⟩⟩ := T
 obtain ⟨hlz, hlx⟩ := L
 obtain ⟨hnz0, hnz1, hkz1, hnz2, hkz2⟩ := ap1f hlz
 have hnx2 : ¬ (w.heap.size = u1.heap.size + 1 + 1) := by omega
 have hkx2 : w.heap.size < u1.heap.size + 1 + 1 := by omega
 have hB := hB'; clear hB'
 have hsz := hB.size
 clear hR
 (try dsimp only at hR1)
 have hw1 : w.heap.size + 2 ≤ u1.heap.size := by omega
 have hv0 : ¬ (w.heap.size = u1.heap.size) := by omega
 have hy0 : ¬ (u1.heap.size = w.heap.size) := by omega
 have hv1 : ¬ (w.heap.size + 1 = u1.heap.size) := by omega
 have hy1 : ¬ (u1.heap.size = w.heap.size + 1) := by omega
 go_wp2_with fail
 ((with_reducible refine (HT1.out _ (by (with_reducible repeat (first | assumption | refine Rd.al ?_ _ | (refine Rd.setl ?_ HLOW hkr ?_ _; rotate_left; (dsimp only; omega)))))).mono ?_); rintro _ u2 ⟨rfl, hR2, hb⟩)
 have T : CF u2 (w.heap.size + 1) 0 (.int .i64 0) ∧ CF u2 (w.heap.size + 1) 1 (.int .i64 0) ∧ CC u2 w.heap.size 3 4 (.int .i64 wl) (.int .i64 wc) ∧ CC u2 u1.heap.size 2 3 (.int .i64 an) (.int .i64 al) ∧ u2.cell? ⟨u1.heap.size, 4, none⟩ = some (.int .i64 ac) := by
   refine ⟨⟨?_, ?_⟩, ⟨?_, ?_⟩, ⟨?_, ?_⟩, ⟨?_, ?_⟩, ?_⟩ <;> first | (refine kg hb (by omega) ?_; go_simp; first | done | rfl) | (refine kgf hb (by omega) (by first | go_size | omega | (simp only [szA]; omega)) ?_; go_simp; first | done | rfl)
 have hz := hb.size
 (try simp only [szA] at hz)
 have L : w.heap.size + 1 < u2.heap.size ∧ w.heap.size < u2.heap.size ∧ u1.heap.size < u2.heap.size := by omega
 have hB' : w.grownBy u2 (some rb) := by
   refine World.grownBy.trans ?_ hb
   (with_reducible repeat (first | assumption | exact World.grownBy.refl _ _ | refine grown_al ?_ _ | (refine grown_new ?_ ?_; rotate_left; (dsimp only; omega))))
 clear hz_0 fz_0 hz_1 fz_1 hx_3 hx_4 hlz hlx hnz0 hnz1 hkz1 hnz2 hkz2 hnx2 hkx2 hB hsz
 clear hb hz
 obtain ⟨⟨hz_0, fz_0⟩, ⟨hz_1, fz_1⟩, ⟨hx_3, hx_4⟩, ⟨hf_2, hf_3⟩, hf_4⟩ := T
 obtain ⟨hlz, hlx, hlf⟩ := L
 obtain ⟨hnz0, hnz1, hkz1, hnz2, hkz2⟩ := ap1f hlz
 have hnx2 : ¬ (w.heap.size = u2.heap.size + 1 + 1) := by omega
 have hkx2 : w.heap.size < u2.heap.size + 1 + 1 := by omega
 obtain ⟨hnf0, hnf1, hkf1, hnf2, hkf2⟩ := ap0 hlf
 have hB := hB'; clear hB'
 have hsz := hB.size
 clear hR1
 (try dsimp only at hR2)
 have hku : rb < u2.heap.size := by omega
 have hru : ¬ rb = u2.heap.size := by omega
 have hto := hR2.c3
 have hnn := hR2.c2
 have hf1 := hR2.fr 2 (by omega)
 have hf2 := hR2.fr 3 (by omega)
 subst h2
 (try dsimp only at hto)
 have HM := hid (mayd_c an)
 rw [h3] at HM
 have hrg : ¬ rb = w.heap.size + 1 := by omega
 have hn_0 := hnn; have fn_0 := hf1; have ho_0 := hto; have fo_0 := hf2; clear hnn hf1 hto hf2
 have HG := hid hB
 have HR := hid hR2
 clear hR2
 have hbr : Below u2.heap.size u2 u2 := Below.refl _ _
 go_wp2_with fail
 ((with_reducible refine (HM.out _).mono ?_); rintro _ y ⟨rfl, hb⟩)
 have T : CF y (w.heap.size + 1) 0 (.int .i64 0) ∧ CF y (w.heap.size + 1) 1 (.int .i64 0) ∧ CC y w.heap.size 3 4 (.int .i64 wl) (.int .i64 wc) ∧ CC y u1.heap.size 2 3 (.int .i64 an) (.int .i64 al) ∧ y.cell? ⟨u1.heap.size, 4, none⟩ = some (.int .i64 ac) ∧ CF y rb 2 (.int .i64 sdn) ∧ CF y rb 3 (.bool false) := by
   refine ⟨⟨?_, ?_⟩, ⟨?_, ?_⟩, ⟨?_, ?_⟩, ⟨?_, ?_⟩, ?_, ⟨?_, ?_⟩, ⟨?_, ?_⟩⟩ <;> first | (refine kc hb ?_ <;> (go_simp; first | done | rfl)) | (refine kfz hb ?_ ?_ <;> first | (go_size; done) | (go_simp; done))
 have hz := hb.size
 (try simp only [szA] at hz)
 have L : w.heap.size + 1 < y.heap.size ∧ w.heap.size < y.heap.size ∧ u1.heap.size < y.heap.size ∧ rb < y.heap.size ∧ rb < y.heap.size := by omega
 have hB' : Below u2.heap.size u2 y := by
   refine kb ?_ hb
   go_grown
 clear hz_0 fz_0 hz_1 fz_1 hx_3 hx_4 hf_2 hf_3 hf_4 hlz hlx hlf hnz0 hnz1 hkz1 hnz2 hkz2 hnx2 hkx2 hnf0 hnf1 hkf1 hnf2 hkf2 hB hsz
 clear hb hz
 obtain ⟨⟨hz_0, fz_0⟩, ⟨hz_1, fz_1⟩, ⟨hx_3, hx_4⟩, ⟨hf_2, hf_3⟩, hf_4, ⟨hn_0, fn_0⟩, ⟨ho_0, fo_0⟩⟩ := T
 obtain ⟨hlz, hlx, hlf, hln, hlo⟩ := L
 obtain ⟨hnz0, hnz1, hkz1, hnz2, hkz2⟩ := ap1f hlz
 have hnx2 : ¬ (w.heap.size = y.heap.size + 1 + 1) := by omega
 have hkx2 : w.heap.size < y.heap.size + 1 + 1 := by omega
 obtain ⟨hnf0, hnf1, hkf1, hnf2, hkf2⟩ := ap0 hlf
 obtain ⟨hnn0, hnn1, hkn1, hnn2, hkn2⟩ := ap0 hln
 have hB := hB'; clear hB'
 have hsz := hB.size
 have HT := hid ((Tur.of_grown (v := sv) HG.out hlt hsz0).trans (Tur.of_below hB hlt HR.out.sz))
 have HRy := hid (HR.out.on hB)
 go_wp2
 refine bodyPost_ret (v := .tuple #[.agg #[.int .i64 al, .int .i64 ac], .int .i64 10]) (by simp [results, Tryz.results56, go_sem, hz_0, hz_1] <;> first | done | rfl) rfl (setEnd_err HF.out.1 HF.out.2.1 HF.out.2.2 (by decide) ((HT.out.setn hlt hsz0 (by dsimp only; omega) _).setn hlt hsz0 (by dsimp only; omega) _))
set_option maxHeartbeats 8000000 in
theorem settD_O (ak an al ac : Int) (ax : List UInt8) (zk zn zl zc : Int) (zx : List UInt8) (rs : List Tk) (wk wn wl wc : Int) (wx : List UInt8) (ssp : List Mk) (sv : Value) (sdn stn : Int) (sdb stb : Bool) (h0 : ak = 2) (h1 : zk = 4) (h2 : sdb = false) (h3 : mayD an = true) (rb S0 : Nat) (w : World) (hR : Rd rb S0 w ⟨⟨ak, ax, an, al, ac⟩ :: ⟨zk, zx, zn, zl, zc⟩ :: rs, ssp, sv, sdn, sdb, stn, stb⟩) :
  Calls Tryz.prog 56 #[.pointer (some ⟨rb, 0, none⟩), tkV ⟨wk, wx, wn, wl, wc⟩, .pointer (some ⟨rb, 2, none⟩), .func (.func 27) #[] #[]] w (SetEnd rb S0 sv w (fun o => ⟨o.r, ssp, sv, o.n, true, stn, stb⟩) (settM sdb mayD ⟨wk, wx, wn, wl, wc⟩ (⟨ak, ax, an, al, ac⟩ :: ⟨zk, zx, zn, zl, zc⟩ :: rs))) := by
 have hlt := hR.lt
 have hsz0 := hR.sz
 have hkr : rb < w.heap.size := by omega
 have hrw : ¬ rb = w.heap.size := by omega
 have hrw1 : ¬ rb = w.heap.size + 1 := by omega
 have HLOW := hid (show ∀ g, sv.ownBlock = some g → g < w.heap.size from fun g h => (hR.row.2.lt g h).2)
 obtain ⟨O, hO⟩ : ∃ O, settM sdb mayD ⟨wk, wx, wn, wl, wc⟩ (⟨ak, ax, an, al, ac⟩ :: ⟨zk, zx, zn, zl, zc⟩ :: rs) = O := ⟨_, rfl⟩
 rw [hO]
 have HF := hid (show O.e = 0 ∧ O.n = an ∧ O.r = rs from by rw [← hO]; simp [settM, h0, h1, h2, h3])
 clear hO
 have ht0 : (ak == 2) = true := by rw [h0]; rfl
 have HT0 := hid (fun W hR => (takei_c 2 rb S0 W ⟨⟨ak, ax, an, al, ac⟩ :: ⟨zk, zx, zn, zl, zc⟩ :: rs, ssp, sv, sdn, sdb, stn, stb⟩ ⟨ak, ax, an, al, ac⟩ (⟨zk, zx, zn, zl, zc⟩ :: rs) rfl hR).mono (fun e w' h => h.1 ht0))
 (try dsimp only [tkV] at HT0)
 have ht1 : (zk == 4) = true := by rw [h1]; rfl
 have HT1 := hid (fun W hR => (takei_c 4 rb S0 W ⟨⟨zk, zx, zn, zl, zc⟩ :: rs, ssp, sv, sdn, sdb, stn, stb⟩ ⟨zk, zx, zn, zl, zc⟩ (rs) rfl hR).mono (fun e w' h => h.1 ht1))
 (try dsimp only [tkV] at HT1)
 clear ht0 ht1
 unfold tkV
 (try dsimp only)
 generalize txB ax = aT at *
 generalize txB zx = zT at *
 generalize txB wx = wT at *
 go_enter Tryz.func56, Tryz.ntmps56
 go_wp2_with fail
 ((with_reducible refine (HT0.out _ (by (with_reducible repeat (first | assumption | refine Rd.al ?_ _ | (refine Rd.setl ?_ HLOW hkr ?_ _; rotate_left; (dsimp only; omega)))))).mono ?_); rintro _ u1 ⟨rfl, hR1, hb⟩)
 have T : CF u1 (w.heap.size + 1) 0 (.int .i64 0) ∧ CF u1 (w.heap.size + 1) 1 (.int .i64 0) ∧ CC u1 w.heap.size 3 4 (.int .i64 wl) (.int .i64 wc) := by
   refine ⟨⟨?_, ?_⟩, ⟨?_, ?_⟩, ⟨?_, ?_⟩⟩ <;> first | (refine kg hb (by omega) ?_; go_simp; first | done | rfl) | (refine kgf hb (by omega) (by first | go_size | omega | (simp only [szA]; omega)) ?_; go_simp; first | done | rfl)
 have hz := hb.size
 (try simp only [szA] at hz)
 have L : w.heap.size + 1 < u1.heap.size ∧ w.heap.size < u1.heap.size := by omega
 have hB' : w.grownBy u1 (some rb) := by
   refine World.grownBy.trans ?_ hb
   (with_reducible repeat (first | assumption | exact World.grownBy.refl _ _ | refine grown_al ?_ _ | (refine grown_new ?_ ?_; rotate_left; (dsimp only; omega))))
 clear hb hz
 obtain ⟨⟨hz_0, fz_0⟩, ⟨hz_1, fz_1⟩, ⟨hx_3, hx_4⟩⟩ := T
 obtain ⟨hlz, hlx⟩ := L
 obtain ⟨hnz0, hnz1, hkz1, hnz2, hkz2⟩ := ap1f hlz
 have hnx2 : ¬ (w.heap.size = u1.heap.size + 1 + 1) := by omega
 have hkx2 : w.heap.size < u1.heap.size + 1 + 1 := by omega
 have hB := hB'; clear hB'
 have hsz := hB.size
 clear hR
 (try dsimp only at hR1)
 have hw1 : w.heap.size + 2 ≤ u1.heap.size := by omega
 have hv0 : ¬ (w.heap.size = u1.heap.size) := by omega
 have hy0 : ¬ (u1.heap.size = w.heap.size) := by omega
 have hv1 : ¬ (w.heap.size + 1 = u1.heap.size) := by omega
 have hy1 : ¬ (u1.heap.size = w.heap.size + 1) := by omega
 go_wp2_with fail
 ((with_reducible refine (HT1.out _ (by (with_reducible repeat (first | assumption | refine Rd.al ?_ _ | (refine Rd.setl ?_ HLOW hkr ?_ _; rotate_left; (dsimp only; omega)))))).mono ?_); rintro _ u2 ⟨rfl, hR2, hb⟩)
 have T : CF u2 (w.heap.size + 1) 0 (.int .i64 0) ∧ CF u2 (w.heap.size + 1) 1 (.int .i64 0) ∧ CC u2 w.heap.size 3 4 (.int .i64 wl) (.int .i64 wc) ∧ CC u2 u1.heap.size 2 3 (.int .i64 an) (.int .i64 al) ∧ u2.cell? ⟨u1.heap.size, 4, none⟩ = some (.int .i64 ac) := by
   refine ⟨⟨?_, ?_⟩, ⟨?_, ?_⟩, ⟨?_, ?_⟩, ⟨?_, ?_⟩, ?_⟩ <;> first | (refine kg hb (by omega) ?_; go_simp; first | done | rfl) | (refine kgf hb (by omega) (by first | go_size | omega | (simp only [szA]; omega)) ?_; go_simp; first | done | rfl)
 have hz := hb.size
 (try simp only [szA] at hz)
 have L : w.heap.size + 1 < u2.heap.size ∧ w.heap.size < u2.heap.size ∧ u1.heap.size < u2.heap.size := by omega
 have hB' : w.grownBy u2 (some rb) := by
   refine World.grownBy.trans ?_ hb
   (with_reducible repeat (first | assumption | exact World.grownBy.refl _ _ | refine grown_al ?_ _ | (refine grown_new ?_ ?_; rotate_left; (dsimp only; omega))))
 clear hz_0 fz_0 hz_1 fz_1 hx_3 hx_4 hlz hlx hnz0 hnz1 hkz1 hnz2 hkz2 hnx2 hkx2 hB hsz
 clear hb hz
 obtain ⟨⟨hz_0, fz_0⟩, ⟨hz_1, fz_1⟩, ⟨hx_3, hx_4⟩, ⟨hf_2, hf_3⟩, hf_4⟩ := T
 obtain ⟨hlz, hlx, hlf⟩ := L
 obtain ⟨hnz0, hnz1, hkz1, hnz2, hkz2⟩ := ap1f hlz
 have hnx2 : ¬ (w.heap.size = u2.heap.size + 1 + 1) := by omega
 have hkx2 : w.heap.size < u2.heap.size + 1 + 1 := by omega
 obtain ⟨hnf0, hnf1, hkf1, hnf2, hkf2⟩ := ap0 hlf
 have hB := hB'; clear hB'
 have hsz := hB.size
 clear hR1
 (try dsimp only at hR2)
 have hku : rb < u2.heap.size := by omega
 have hru : ¬ rb = u2.heap.size := by omega
 have hto := hR2.c3
 have hnn := hR2.c2
 have hf1 := hR2.fr 2 (by omega)
 have hf2 := hR2.fr 3 (by omega)
 subst h2
 (try dsimp only at hto)
 have HM := hid (mayd_c an)
 rw [h3] at HM
 have hrg : ¬ rb = w.heap.size + 1 := by omega
 have hn_0 := hnn; have fn_0 := hf1; have ho_0 := hto; have fo_0 := hf2; clear hnn hf1 hto hf2
 have HG := hid hB
 have HR := hid hR2
 clear hR2
 have hbr : Below u2.heap.size u2 u2 := Below.refl _ _
 go_wp2_with fail
 ((with_reducible refine (HM.out _).mono ?_); rintro _ y ⟨rfl, hb⟩)
 have T : CF y (w.heap.size + 1) 0 (.int .i64 0) ∧ CF y (w.heap.size + 1) 1 (.int .i64 0) ∧ CC y w.heap.size 3 4 (.int .i64 wl) (.int .i64 wc) ∧ CC y u1.heap.size 2 3 (.int .i64 an) (.int .i64 al) ∧ y.cell? ⟨u1.heap.size, 4, none⟩ = some (.int .i64 ac) ∧ CF y rb 2 (.int .i64 sdn) ∧ CF y rb 3 (.bool false) := by
   refine ⟨⟨?_, ?_⟩, ⟨?_, ?_⟩, ⟨?_, ?_⟩, ⟨?_, ?_⟩, ?_, ⟨?_, ?_⟩, ⟨?_, ?_⟩⟩ <;> first | (refine kc hb ?_ <;> (go_simp; first | done | rfl)) | (refine kfz hb ?_ ?_ <;> first | (go_size; done) | (go_simp; done))
 have hz := hb.size
 (try simp only [szA] at hz)
 have L : w.heap.size + 1 < y.heap.size ∧ w.heap.size < y.heap.size ∧ u1.heap.size < y.heap.size ∧ rb < y.heap.size ∧ rb < y.heap.size := by omega
 have hB' : Below u2.heap.size u2 y := by
   refine kb ?_ hb
   go_grown
 clear hz_0 fz_0 hz_1 fz_1 hx_3 hx_4 hf_2 hf_3 hf_4 hlz hlx hlf hnz0 hnz1 hkz1 hnz2 hkz2 hnx2 hkx2 hnf0 hnf1 hkf1 hnf2 hkf2 hB hsz
 clear hb hz
 obtain ⟨⟨hz_0, fz_0⟩, ⟨hz_1, fz_1⟩, ⟨hx_3, hx_4⟩, ⟨hf_2, hf_3⟩, hf_4, ⟨hn_0, fn_0⟩, ⟨ho_0, fo_0⟩⟩ := T
 obtain ⟨hlz, hlx, hlf, hln, hlo⟩ := L
 obtain ⟨hnz0, hnz1, hkz1, hnz2, hkz2⟩ := ap1f hlz
 have hnx2 : ¬ (w.heap.size = y.heap.size + 1 + 1) := by omega
 have hkx2 : w.heap.size < y.heap.size + 1 + 1 := by omega
 obtain ⟨hnf0, hnf1, hkf1, hnf2, hkf2⟩ := ap0 hlf
 obtain ⟨hnn0, hnn1, hkn1, hnn2, hkn2⟩ := ap0 hln
 have hB := hB'; clear hB'
 have hsz := hB.size
 have HT := hid ((Tur.of_grown (v := sv) HG.out hlt hsz0).trans (Tur.of_below hB hlt HR.out.sz))
 have HRy := hid (HR.out.on hB)
 go_wp2
 refine bodyPost_ret (v := .tuple #[.agg #[.int .i64 0, .int .i64 0], .int .i64 0]) (by simp [results, Tryz.results56, go_sem, hz_0, hz_1] <;> first | done | rfl) rfl (setEnd_ok HF.out.1 ?_ ((((HT.out.set _ _).set _ _).setn hlt hsz0 (by dsimp only; omega) _).setn hlt hsz0 (by dsimp only; omega) _))
 rw [HF.out.2.1, HF.out.2.2]
 exact ((HRy.out.setD an true).setl HLOW hkr (by dsimp only; omega) _).setl HLOW hkr (by dsimp only; omega) _
set_option maxHeartbeats 8000000 in
theorem settT_A (ak an al ac : Int) (ax : List UInt8) (rs : List Tk) (wk wn wl wc : Int) (wx : List UInt8) (ssp : List Mk) (sv : Value) (sdn stn : Int) (sdb stb : Bool) (h0 : ¬ ak = 2) (rb S0 : Nat) (w : World) (hR : Rd rb S0 w ⟨⟨ak, ax, an, al, ac⟩ :: rs, ssp, sv, sdn, sdb, stn, stb⟩) :
  Calls Tryz.prog 56 #[.pointer (some ⟨rb, 0, none⟩), tkV ⟨wk, wx, wn, wl, wc⟩, .pointer (some ⟨rb, 4, none⟩), .func (.func 28) #[] #[]] w (SetEnd rb S0 sv w (fun o => ⟨o.r, ssp, sv, sdn, sdb, o.n, true⟩) (settM stb mayT ⟨wk, wx, wn, wl, wc⟩ (⟨ak, ax, an, al, ac⟩ :: rs))) := by
 have hlt := hR.lt
 have hsz0 := hR.sz
 have hkr : rb < w.heap.size := by omega
 have hrw : ¬ rb = w.heap.size := by omega
 have hrw1 : ¬ rb = w.heap.size + 1 := by omega
 have HLOW := hid (show ∀ g, sv.ownBlock = some g → g < w.heap.size from fun g h => (hR.row.2.lt g h).2)
 obtain ⟨O, hO⟩ : ∃ O, settM stb mayT ⟨wk, wx, wn, wl, wc⟩ (⟨ak, ax, an, al, ac⟩ :: rs) = O := ⟨_, rfl⟩
 rw [hO]
 have HF := hid (show O.e = 11 ∧ O.li = al ∧ O.co = ac from by rw [← hO]; simp [settM, h0])
 clear hO
 have ht0 : (ak == 2) = false := by exact beq_eq_false_iff_ne.2 h0
 have HT0 := hid (fun W hR => (takei_c 2 rb S0 W ⟨⟨ak, ax, an, al, ac⟩ :: rs, ssp, sv, sdn, sdb, stn, stb⟩ ⟨ak, ax, an, al, ac⟩ (rs) rfl hR).mono (fun e w' h => h.2 ht0))
 (try dsimp only [tkV] at HT0)
 clear ht0
 unfold tkV
 (try dsimp only)
 generalize txB ax = aT at *
 generalize txB wx = wT at *
 go_enter Tryz.func56, Tryz.ntmps56
 go_wp2_with fail
 ((with_reducible refine (HT0.out _ (by (with_reducible repeat (first | assumption | refine Rd.al ?_ _ | (refine Rd.setl ?_ HLOW hkr ?_ _; rotate_left; (dsimp only; omega)))))).mono ?_); rintro _ u1 ⟨rfl, hR1, hb⟩)
 have T : CF u1 (w.heap.size + 1) 0 (.int .i64 0) ∧ CF u1 (w.heap.size + 1) 1 (.int .i64 0) ∧ CC u1 w.heap.size 3 4 (.int .i64 wl) (.int .i64 wc) := by
   refine ⟨⟨?_, ?_⟩, ⟨?_, ?_⟩, ⟨?_, ?_⟩⟩ <;> first | (refine kg hb (by omega) ?_; go_simp; first | done | rfl) | (refine kgf hb (by omega) (by first | go_size | omega | (simp only [szA]; omega)) ?_; go_simp; first | done | rfl)
 have hz := hb.size
 (try simp only [szA] at hz)
 have L : w.heap.size + 1 < u1.heap.size ∧ w.heap.size < u1.heap.size := by omega
 have hB' : w.grownBy u1 (some rb) := by
   refine World.grownBy.trans ?_ hb
   (with_reducible repeat (first | assumption | exact World.grownBy.refl _ _ | refine grown_al ?_ _ | (refine grown_new ?_ ?_; rotate_left; (dsimp only; omega))))
 clear hb hz
 obtain ⟨⟨hz_0, fz_0⟩, ⟨hz_1, fz_1⟩, ⟨hx_3, hx_4⟩⟩ := T
 obtain ⟨hlz, hlx⟩ := L
 obtain ⟨hnz0, hnz1, hkz1, hnz2, hkz2⟩ := ap1f hlz
 have hnx2 : ¬ (w.heap.size = u1.heap.size + 1 + 1) := by omega
 have hkx2 : w.heap.size < u1.heap.size + 1 + 1 := by omega
 have hB := hB'; clear hB'
 have hsz := hB.size
 clear hR
 (try dsimp only at hR1)
 have hw1 : w.heap.size + 2 ≤ u1.heap.size := by omega
 have hv0 : ¬ (w.heap.size = u1.heap.size) := by omega
 have hy0 : ¬ (u1.heap.size = w.heap.size) := by omega
 have hv1 : ¬ (w.heap.size + 1 = u1.heap.size) := by omega
 have hy1 : ¬ (u1.heap.size = w.heap.size + 1) := by omega
 go_wp2_with fail
 ((with_reducible refine (wrong_c rb S0 _ ⟨⟨ak, ax, an, al, ac⟩ :: rs, ssp, sv, sdn, sdb, stn, stb⟩ ⟨ak, ax, an, al, ac⟩ rs rfl (by (with_reducible repeat (first | assumption | refine Rd.al ?_ _ | (refine Rd.setl ?_ HLOW hkr ?_ _; rotate_left; (dsimp only; omega)))))).mono ?_); rintro _ u2 ⟨rfl, hb⟩)
 have T : CF u2 (w.heap.size + 1) 0 (.int .i64 0) ∧ CF u2 (w.heap.size + 1) 1 (.int .i64 0) ∧ CC u2 w.heap.size 3 4 (.int .i64 wl) (.int .i64 wc) := by
   refine ⟨⟨?_, ?_⟩, ⟨?_, ?_⟩, ⟨?_, ?_⟩⟩ <;> first | (refine kg hb (by omega) ?_; go_simp; first | done | rfl) | (refine kgf hb (by omega) (by first | go_size | omega | (simp only [szA]; omega)) ?_; go_simp; first | done | rfl)
 have hz := hb.size
 (try simp only [szA] at hz)
 have L : w.heap.size + 1 < u2.heap.size ∧ w.heap.size < u2.heap.size := by omega
 have hB' : w.grownBy u2 (some rb) := by
   refine World.grownBy.trans ?_ hb
   (with_reducible repeat (first | assumption | exact World.grownBy.refl _ _ | refine grown_al ?_ _ | (refine grown_new ?_ ?_; rotate_left; (dsimp only; omega))))
 clear hz_0 fz_0 hz_1 fz_1 hx_3 hx_4 hlz hlx hnz0 hnz1 hkz1 hnz2 hkz2 hnx2 hkx2 hB hsz
 clear hb hz
 obtain ⟨⟨hz_0, fz_0⟩, ⟨hz_1, fz_1⟩, ⟨hx_3, hx_4⟩⟩ := T
 obtain ⟨hlz, hlx⟩ := L
 obtain ⟨hnz0, hnz1, hkz1, hnz2, hkz2⟩ := ap1f hlz
 have hnx2 : ¬ (w.heap.size = u2.heap.size + 1 + 1) := by omega
 have hkx2 : w.heap.size < u2.heap.size + 1 + 1 := by omega
 have hB := hB'; clear hB'
 have hsz := hB.size
 go_wp2
 refine bodyPost_ret (v := .tuple #[.agg #[.int .i64 al, .int .i64 ac], .int .i64 11]) (by simp [results, Tryz.results56, go_sem, hz_0, hz_1] <;> first | done | rfl) rfl (setEnd_err HF.out.1 HF.out.2.1 HF.out.2.2 (by decide) (Tur.of_grown (by (with_reducible repeat (first | assumption | exact World.grownBy.refl _ _ | refine grown_al ?_ _ | (refine grown_new ?_ ?_; rotate_left; (dsimp only; omega))))) hlt hsz0))
set_option maxHeartbeats 8000000 in
theorem settT_Z (ak an al ac : Int) (ax : List UInt8) (zk zn zl zc : Int) (zx : List UInt8) (rs : List Tk) (wk wn wl wc : Int) (wx : List UInt8) (ssp : List Mk) (sv : Value) (sdn stn : Int) (sdb stb : Bool) (h0 : ak = 2) (h1 : ¬ zk = 4) (rb S0 : Nat) (w : World) (hR : Rd rb S0 w ⟨⟨ak, ax, an, al, ac⟩ :: ⟨zk, zx, zn, zl, zc⟩ :: rs, ssp, sv, sdn, sdb, stn, stb⟩) :
  Calls Tryz.prog 56 #[.pointer (some ⟨rb, 0, none⟩), tkV ⟨wk, wx, wn, wl, wc⟩, .pointer (some ⟨rb, 4, none⟩), .func (.func 28) #[] #[]] w (SetEnd rb S0 sv w (fun o => ⟨o.r, ssp, sv, sdn, sdb, o.n, true⟩) (settM stb mayT ⟨wk, wx, wn, wl, wc⟩ (⟨ak, ax, an, al, ac⟩ :: ⟨zk, zx, zn, zl, zc⟩ :: rs))) := by
 have hlt := hR.lt
 have hsz0 := hR.sz
 have hkr : rb < w.heap.size := by omega
 have hrw : ¬ rb = w.heap.size := by omega
 have hrw1 : ¬ rb = w.heap.size + 1 := by omega
 have HLOW := hid (show ∀ g, sv.ownBlock = some g → g < w.heap.size from fun g h => (hR.row.2.lt g h).2)
 obtain ⟨O, hO⟩ : ∃ O, settM stb mayT ⟨wk, wx, wn, wl, wc⟩ (⟨ak, ax, an, al, ac⟩ :: ⟨zk, zx, zn, zl, zc⟩ :: rs) = O := ⟨_, rfl⟩
 rw [hO]
 have HF := hid (show O.e = 11 ∧ O.li = zl ∧ O.co = zc from by rw [← hO]; simp [settM, h0, h1])
 clear hO
 have ht0 : (ak == 2) = true := by rw [h0]; rfl
 have HT0 := hid (fun W hR => (takei_c 2 rb S0 W ⟨⟨ak, ax, an, al, ac⟩ :: ⟨zk, zx, zn, zl, zc⟩ :: rs, ssp, sv, sdn, sdb, stn, stb⟩ ⟨ak, ax, an, al, ac⟩ (⟨zk, zx, zn, zl, zc⟩ :: rs) rfl hR).mono (fun e w' h => h.1 ht0))
 (try dsimp only [tkV] at HT0)
 have ht1 : (zk == 4) = false := by exact beq_eq_false_iff_ne.2 h1
 have HT1 := hid (fun W hR => (takei_c 4 rb S0 W ⟨⟨zk, zx, zn, zl, zc⟩ :: rs, ssp, sv, sdn, sdb, stn, stb⟩ ⟨zk, zx, zn, zl, zc⟩ (rs) rfl hR).mono (fun e w' h => h.2 ht1))
 (try dsimp only [tkV] at HT1)
 clear ht0 ht1
 unfold tkV
 (try dsimp only)
 generalize txB ax = aT at *
 generalize txB zx = zT at *
 generalize txB wx = wT at *
 go_enter Tryz.func56, Tryz.ntmps56
 go_wp2_with fail
 ((with_reducible refine (HT0.out _ (by (with_reducible repeat (first | assumption | refine Rd.al ?_ _ | (refine Rd.setl ?_ HLOW hkr ?_ _; rotate_left; (dsimp only; omega)))))).mono ?_); rintro _ u1 ⟨rfl, hR1, hb⟩)
 have T : CF u1 (w.heap.size + 1) 0 (.int .i64 0) ∧ CF u1 (w.heap.size + 1) 1 (.int .i64 0) ∧ CC u1 w.heap.size 3 4 (.int .i64 wl) (.int .i64 wc) := by
   refine ⟨⟨?_, ?_⟩, ⟨?_, ?_⟩, ⟨?_, ?_⟩⟩ <;> first | (refine kg hb (by omega) ?_; go_simp; first | done | rfl) | (refine kgf hb (by omega) (by first | go_size | omega | (simp only [szA]; omega)) ?_; go_simp; first | done | rfl)
 have hz := hb.size
 (try simp only [szA] at hz)
 have L : w.heap.size + 1 < u1.heap.size ∧ w.heap.size < u1.heap.size := by omega
 have hB' : w.grownBy u1 (some rb) := by
   refine World.grownBy.trans ?_ hb
   (with_reducible repeat (first | assumption | exact World.grownBy.refl _ _ | refine grown_al ?_ _ | (refine grown_new ?_ ?_; rotate_left; (dsimp only; omega))))
 clear hb hz
 obtain ⟨⟨hz_0, fz_0⟩, ⟨hz_1, fz_1⟩, ⟨hx_3, hx_4⟩⟩ := T
 obtain ⟨hlz, hlx⟩ := L
 obtain ⟨hnz0, hnz1, hkz1, hnz2, hkz2⟩ := ap1f hlz
 have hnx2 : ¬ (w.heap.size = u1.heap.size + 1 + 1) := by omega
 have hkx2 : w.heap.size < u1.heap.size + 1 + 1 := by omega
 have hB := hB'; clear hB'
 have hsz := hB.size
 clear hR
 (try dsimp only at hR1)
 have hw1 : w.heap.size + 2 ≤ u1.heap.size := by omega
 have hv0 : ¬ (w.heap.size = u1.heap.size) := by omega
 have hy0 : ¬ (u1.heap.size = w.heap.size) := by omega
 have hv1 : ¬ (w.heap.size + 1 = u1.heap.size) := by omega
 have hy1 : ¬ (u1.heap.size = w.heap.size + 1) := by omega
 go_wp2_with fail
 ((with_reducible refine (HT1.out _ (by (with_reducible repeat (first | assumption | refine Rd.al ?_ _ | (refine Rd.setl ?_ HLOW hkr ?_ _; rotate_left; (dsimp only; omega)))))).mono ?_); rintro _ u2 ⟨rfl, hR2, hb⟩)
 have T : CF u2 (w.heap.size + 1) 0 (.int .i64 0) ∧ CF u2 (w.heap.size + 1) 1 (.int .i64 0) ∧ CC u2 w.heap.size 3 4 (.int .i64 wl) (.int .i64 wc) ∧ CC u2 u1.heap.size 2 3 (.int .i64 an) (.int .i64 al) ∧ u2.cell? ⟨u1.heap.size, 4, none⟩ = some (.int .i64 ac) := by
   refine ⟨⟨?_, ?_⟩, ⟨?_, ?_⟩, ⟨?_, ?_⟩, ⟨?_, ?_⟩, ?_⟩ <;> first | (refine kg hb (by omega) ?_; go_simp; first | done | rfl) | (refine kgf hb (by omega) (by first | go_size | omega | (simp only [szA]; omega)) ?_; go_simp; first | done | rfl)
 have hz := hb.size
 (try simp only [szA] at hz)
 have L : w.heap.size + 1 < u2.heap.size ∧ w.heap.size < u2.heap.size ∧ u1.heap.size < u2.heap.size := by omega
 have hB' : w.grownBy u2 (some rb) := by
   refine World.grownBy.trans ?_ hb
   (with_reducible repeat (first | assumption | exact World.grownBy.refl _ _ | refine grown_al ?_ _ | (refine grown_new ?_ ?_; rotate_left; (dsimp only; omega))))
 clear hz_0 fz_0 hz_1 fz_1 hx_3 hx_4 hlz hlx hnz0 hnz1 hkz1 hnz2 hkz2 hnx2 hkx2 hB hsz
 clear hb hz
 obtain ⟨⟨hz_0, fz_0⟩, ⟨hz_1, fz_1⟩, ⟨hx_3, hx_4⟩, ⟨hf_2, hf_3⟩, hf_4⟩ := T
 obtain ⟨hlz, hlx, hlf⟩ := L
 obtain ⟨hnz0, hnz1, hkz1, hnz2, hkz2⟩ := ap1f hlz
 have hnx2 : ¬ (w.heap.size = u2.heap.size + 1 + 1) := by omega
 have hkx2 : w.heap.size < u2.heap.size + 1 + 1 := by omega
 obtain ⟨hnf0, hnf1, hkf1, hnf2, hkf2⟩ := ap0 hlf
 have hB := hB'; clear hB'
 have hsz := hB.size
 clear hR1
 (try dsimp only at hR2)
 go_wp2_with fail
 ((with_reducible refine (wrong_c rb S0 _ ⟨⟨zk, zx, zn, zl, zc⟩ :: rs, ssp, sv, sdn, sdb, stn, stb⟩ ⟨zk, zx, zn, zl, zc⟩ rs rfl (by (with_reducible repeat (first | assumption | refine Rd.al ?_ _ | (refine Rd.setl ?_ HLOW hkr ?_ _; rotate_left; (dsimp only; omega)))))).mono ?_); rintro _ u3 ⟨rfl, hb⟩)
 have T : CF u3 (w.heap.size + 1) 0 (.int .i64 0) ∧ CF u3 (w.heap.size + 1) 1 (.int .i64 0) ∧ CC u3 w.heap.size 3 4 (.int .i64 wl) (.int .i64 wc) ∧ CC u3 u1.heap.size 2 3 (.int .i64 an) (.int .i64 al) ∧ u3.cell? ⟨u1.heap.size, 4, none⟩ = some (.int .i64 ac) := by
   refine ⟨⟨?_, ?_⟩, ⟨?_, ?_⟩, ⟨?_, ?_⟩, ⟨?_, ?_⟩, ?_⟩ <;> first | (refine kg hb (by omega) ?_; go_simp; first | done | rfl) | (refine kgf hb (by omega) (by first | go_size | omega | (simp only [szA]; omega)) ?_; go_simp; first | done | rfl)
 have hz := hb.size
 (try simp only [szA] at hz)
 have L : w.heap.size + 1 < u3.heap.size ∧ w.heap.size < u3.heap.size ∧ u1.heap.size < u3.heap.size := by omega
 have hB' : w.grownBy u3 (some rb) := by
   refine World.grownBy.trans ?_ hb
   (with_reducible repeat (first | assumption | exact World.grownBy.refl _ _ | refine grown_al ?_ _ | (refine grown_new ?_ ?_; rotate_left; (dsimp only; omega))))
 clear hz_0 fz_0 hz_1 fz_1 hx_3 hx_4 hf_2 hf_3 hf_4 hlz hlx hlf hnz0 hnz1 hkz1 hnz2 hkz2 hnx2 hkx2 hnf0 hnf1 hkf1 hnf2 hkf2 hB hsz
 clear hb hz
 obtain ⟨⟨hz_0, fz_0⟩, ⟨hz_1, fz_1⟩, ⟨hx_3, hx_4⟩, ⟨hf_2, hf_3⟩, hf_4⟩ := T
 obtain ⟨hlz, hlx, hlf⟩ := L
 obtain ⟨hnz0, hnz1, hkz1, hnz2, hkz2⟩ := ap1f hlz
 have hnx2 : ¬ (w.heap.size = u3.heap.size + 1 + 1) := by omega
 have hkx2 : w.heap.size < u3.heap.size + 1 + 1 := by omega
 obtain ⟨hnf0, hnf1, hkf1, hnf2, hkf2⟩ := ap0 hlf
 have hB := hB'; clear hB'
 have hsz := hB.size
 go_wp2
 refine bodyPost_ret (v := .tuple #[.agg #[.int .i64 zl, .int .i64 zc], .int .i64 11]) (by simp [results, Tryz.results56, go_sem, hz_0, hz_1] <;> first | done | rfl) rfl (setEnd_err HF.out.1 HF.out.2.1 HF.out.2.2 (by decide) (Tur.of_grown (by (with_reducible repeat (first | assumption | exact World.grownBy.refl _ _ | refine grown_al ?_ _ | (refine grown_new ?_ ?_; rotate_left; (dsimp only; omega))))) hlt hsz0))
set_option maxHeartbeats 8000000 in
theorem settT_T (ak an al ac : Int) (ax : List UInt8) (zk zn zl zc : Int) (zx : List UInt8) (rs : List Tk) (wk wn wl wc : Int) (wx : List UInt8) (ssp : List Mk) (sv : Value) (sdn stn : Int) (sdb stb : Bool) (h0 : ak = 2) (h1 : zk = 4) (h2 : stb = true) (rb S0 : Nat) (w : World) (hR : Rd rb S0 w ⟨⟨ak, ax, an, al, ac⟩ :: ⟨zk, zx, zn, zl, zc⟩ :: rs, ssp, sv, sdn, sdb, stn, stb⟩) :
  Calls Tryz.prog 56 #[.pointer (some ⟨rb, 0, none⟩), tkV ⟨wk, wx, wn, wl, wc⟩, .pointer (some ⟨rb, 4, none⟩), .func (.func 28) #[] #[]] w (SetEnd rb S0 sv w (fun o => ⟨o.r, ssp, sv, sdn, sdb, o.n, true⟩) (settM stb mayT ⟨wk, wx, wn, wl, wc⟩ (⟨ak, ax, an, al, ac⟩ :: ⟨zk, zx, zn, zl, zc⟩ :: rs))) := by
 have hlt := hR.lt
 have hsz0 := hR.sz
 have hkr : rb < w.heap.size := by omega
 have hrw : ¬ rb = w.heap.size := by omega
 have hrw1 : ¬ rb = w.heap.size + 1 := by omega
 have HLOW := hid (show ∀ g, sv.ownBlock = some g → g < w.heap.size from fun g h => (hR.row.2.lt g h).2)
 obtain ⟨O, hO⟩ : ∃ O, settM stb mayT ⟨wk, wx, wn, wl, wc⟩ (⟨ak, ax, an, al, ac⟩ :: ⟨zk, zx, zn, zl, zc⟩ :: rs) = O := ⟨_, rfl⟩
 rw [hO]
 have HF := hid (show O.e = 16 ∧ O.li = wl ∧ O.co = wc from by rw [← hO]; simp [settM, h0, h1, h2])
 clear hO
 have ht0 : (ak == 2) = true := by rw [h0]; rfl
 have HT0 := hid (fun W hR => (takei_c 2 rb S0 W ⟨⟨ak, ax, an, al, ac⟩ :: ⟨zk, zx, zn, zl, zc⟩ :: rs, ssp, sv, sdn, sdb, stn, stb⟩ ⟨ak, ax, an, al, ac⟩ (⟨zk, zx, zn, zl, zc⟩ :: rs) rfl hR).mono (fun e w' h => h.1 ht0))
 (try dsimp only [tkV] at HT0)
 have ht1 : (zk == 4) = true := by rw [h1]; rfl
 have HT1 := hid (fun W hR => (takei_c 4 rb S0 W ⟨⟨zk, zx, zn, zl, zc⟩ :: rs, ssp, sv, sdn, sdb, stn, stb⟩ ⟨zk, zx, zn, zl, zc⟩ (rs) rfl hR).mono (fun e w' h => h.1 ht1))
 (try dsimp only [tkV] at HT1)
 clear ht0 ht1
 unfold tkV
 (try dsimp only)
 generalize txB ax = aT at *
 generalize txB zx = zT at *
 generalize txB wx = wT at *
 go_enter Tryz.func56, Tryz.ntmps56
 go_wp2_with fail
 ((with_reducible refine (HT0.out _ (by (with_reducible repeat (first | assumption | refine Rd.al ?_ _ | (refine Rd.setl ?_ HLOW hkr ?_ _; rotate_left; (dsimp only; omega)))))).mono ?_); rintro _ u1 ⟨rfl, hR1, hb⟩)
 have T : CF u1 (w.heap.size + 1) 0 (.int .i64 0) ∧ CF u1 (w.heap.size + 1) 1 (.int .i64 0) ∧ CC u1 w.heap.size 3 4 (.int .i64 wl) (.int .i64 wc) := by
   refine ⟨⟨?_, ?_⟩, ⟨?_, ?_⟩, ⟨?_, ?_⟩⟩ <;> first | (refine kg hb (by omega) ?_; go_simp; first | done | rfl) | (refine kgf hb (by omega) (by first | go_size | omega | (simp only [szA]; omega)) ?_; go_simp; first | done | rfl)
 have hz := hb.size
 (try simp only [szA] at hz)
 have L : w.heap.size + 1 < u1.heap.size ∧ w.heap.size < u1.heap.size := by omega
 have hB' : w.grownBy u1 (some rb) := by
   refine World.grownBy.trans ?_ hb
   (with_reducible repeat (first | assumption | exact World.grownBy.refl _ _ | refine grown_al ?_ _ | (refine grown_new ?_ ?_; rotate_left; (dsimp only; omega))))
 clear hb hz
 obtain ⟨⟨hz_0, fz_0⟩, ⟨hz_1, fz_1⟩, ⟨hx_3, hx_4⟩⟩ := T
 obtain ⟨hlz, hlx⟩ := L
 obtain ⟨hnz0, hnz1, hkz1, hnz2, hkz2⟩ := ap1f hlz
 have hnx2 : ¬ (w.heap.size = u1.heap.size + 1 + 1) := by omega
 have hkx2 : w.heap.size < u1.heap.size + 1 + 1 := by omega
 have hB := hB'; clear hB'
 have hsz := hB.size
 clear hR
 (try dsimp only at hR1)
 have hw1 : w.heap.size + 2 ≤ u1.heap.size := by omega
 have hv0 : ¬ (w.heap.size = u1.heap.size) := by omega
 have hy0 : ¬ (u1.heap.size = w.heap.size) := by omega
 have hv1 : ¬ (w.heap.size + 1 = u1.heap.size) := by omega
 have hy1 : ¬ (u1.heap.size = w.heap.size + 1) := by omega
 go_wp2_with fail
 ((with_reducible refine (HT1.out _ (by (with_reducible repeat (first | assumption | refine Rd.al ?_ _ | (refine Rd.setl ?_ HLOW hkr ?_ _; rotate_left; (dsimp only; omega)))))).mono ?_); rintro _ u2 ⟨rfl, hR2, hb⟩)
 have T : CF u2 (w.heap.size + 1) 0 (.int .i64 0) ∧ CF u2 (w.heap.size + 1) 1 (.int .i64 0) ∧ CC u2 w.heap.size 3 4 (.int .i64 wl) (.int .i64 wc) ∧ CC u2 u1.heap.size 2 3 (.int .i64 an) (.int .i64 al) ∧ u2.cell? ⟨u1.heap.size, 4, none⟩ = some (.int .i64 ac) := by
   refine ⟨⟨?_, ?_⟩, ⟨?_, ?_⟩, ⟨?_, ?_⟩, ⟨?_, ?_⟩, ?_⟩ <;> first | (refine kg hb (by omega) ?_; go_simp; first | done | rfl) | (refine kgf hb (by omega) (by first | go_size | omega | (simp only [szA]; omega)) ?_; go_simp; first | done | rfl)
 have hz := hb.size
 (try simp only [szA] at hz)
 have L : w.heap.size + 1 < u2.heap.size ∧ w.heap.size < u2.heap.size ∧ u1.heap.size < u2.heap.size := by omega
 have hB' : w.grownBy u2 (some rb) := by
   refine World.grownBy.trans ?_ hb
   (with_reducible repeat (first | assumption | exact World.grownBy.refl _ _ | refine grown_al ?_ _ | (refine grown_new ?_ ?_; rotate_left; (dsimp only; omega))))
 clear hz_0 fz_0 hz_1 fz_1 hx_3 hx_4 hlz hlx hnz0 hnz1 hkz1 hnz2 hkz2 hnx2 hkx2 hB hsz
 clear hb hz
 obtain ⟨⟨hz_0, fz_0⟩, ⟨hz_1, fz_1⟩, ⟨hx_3, hx_4⟩, ⟨hf_2, hf_3⟩, hf_4⟩ := T
 obtain ⟨hlz, hlx, hlf⟩ := L
 obtain ⟨hnz0, hnz1, hkz1, hnz2, hkz2⟩ := ap1f hlz
 have hnx2 : ¬ (w.heap.size = u2.heap.size + 1 + 1) := by omega
 have hkx2 : w.heap.size < u2.heap.size + 1 + 1 := by omega
 obtain ⟨hnf0, hnf1, hkf1, hnf2, hkf2⟩ := ap0 hlf
 have hB := hB'; clear hB'
 have hsz := hB.size
 clear hR1
 (try dsimp only at hR2)
 have hku : rb < u2.heap.size := by omega
 have hru : ¬ rb = u2.heap.size := by omega
 have hto := hR2.c5
 have hnn := hR2.c4
 have hf1 := hR2.fr 4 (by omega)
 have hf2 := hR2.fr 5 (by omega)
 subst h2
 (try dsimp only at hto)
 go_wp2
 refine bodyPost_ret (v := .tuple #[.agg #[.int .i64 wl, .int .i64 wc], .int .i64 16]) (by simp [results, Tryz.results56, go_sem, hz_0, hz_1] <;> first | done | rfl) rfl (setEnd_err HF.out.1 HF.out.2.1 HF.out.2.2 (by decide) (Tur.of_grown (by (with_reducible repeat (first | assumption | exact World.grownBy.refl _ _ | refine grown_al ?_ _ | (refine grown_new ?_ ?_; rotate_left; (dsimp only; omega))))) hlt hsz0))
set_option maxHeartbeats 8000000 in
theorem settT_R (ak an al ac : Int) (ax : List UInt8) (zk zn zl zc : Int) (zx : List UInt8) (rs : List Tk) (wk wn wl wc : Int) (wx : List UInt8) (ssp : List Mk) (sv : Value) (sdn stn : Int) (sdb stb : Bool) (h0 : ak = 2) (h1 : zk = 4) (h2 : stb = false) (h3 : mayT an = false) (rb S0 : Nat) (w : World) (hR : Rd rb S0 w ⟨⟨ak, ax, an, al, ac⟩ :: ⟨zk, zx, zn, zl, zc⟩ :: rs, ssp, sv, sdn, sdb, stn, stb⟩) :
  Calls Tryz.prog 56 #[.pointer (some ⟨rb, 0, none⟩), tkV ⟨wk, wx, wn, wl, wc⟩, .pointer (some ⟨rb, 4, none⟩), .func (.func 28) #[] #[]] w (SetEnd rb S0 sv w (fun o => ⟨o.r, ssp, sv, sdn, sdb, o.n, true⟩) (settM stb mayT ⟨wk, wx, wn, wl, wc⟩ (⟨ak, ax, an, al, ac⟩ :: ⟨zk, zx, zn, zl, zc⟩ :: rs))) := by
 have hlt := hR.lt
 have hsz0 := hR.sz
 have hkr : rb < w.heap.size := by omega
 have hrw : ¬ rb = w.heap.size := by omega
 have hrw1 : ¬ rb = w.heap.size + 1 := by omega
 have HLOW := hid (show ∀ g, sv.ownBlock = some g → g < w.heap.size from fun g h => (hR.row.2.lt g h).2)
 obtain ⟨O, hO⟩ : ∃ O, settM stb mayT ⟨wk, wx, wn, wl, wc⟩ (⟨ak, ax, an, al, ac⟩ :: ⟨zk, zx, zn, zl, zc⟩ :: rs) = O := ⟨_, rfl⟩
 rw [hO]
 have HF := hid (show O.e = 10 ∧ O.li = al ∧ O.co = ac from by rw [← hO]; simp [settM, h0, h1, h2, h3])
 clear hO
 have ht0 : (ak == 2) = true := by rw [h0]; rfl
 have HT0 := hid (fun W hR => (takei_c 2 rb S0 W ⟨⟨ak, ax, an, al, ac⟩ :: ⟨zk, zx, zn, zl, zc⟩ :: rs, ssp, sv, sdn, sdb, stn, stb⟩ ⟨ak, ax, an, al, ac⟩ (⟨zk, zx, zn, zl, zc⟩ :: rs) rfl hR).mono (fun e w' h => h.1 ht0))
 (try dsimp only [tkV] at HT0)
 have ht1 : (zk == 4) = true := by rw [h1]; rfl
 have HT1 := hid (fun W hR => (takei_c 4 rb S0 W ⟨⟨zk, zx, zn, zl, zc⟩ :: rs, ssp, sv, sdn, sdb, stn, stb⟩ ⟨zk, zx, zn, zl, zc⟩ (rs) rfl hR).mono (fun e w' h => h.1 ht1))
 (try dsimp only [tkV] at HT1)
 clear ht0 ht1
 unfold tkV
 (try dsimp only)
 generalize txB ax = aT at *
 generalize txB zx = zT at *
 generalize txB wx = wT at *
 go_enter Tryz.func56, Tryz.ntmps56
 go_wp2_with fail
 ((with_reducible refine (HT0.out _ (by (with_reducible repeat (first | assumption | refine Rd.al ?_ _ | (refine Rd.setl ?_ HLOW hkr ?_ _; rotate_left; (dsimp only; omega)))))).mono ?_); rintro _ u1 ⟨rfl, hR1, hb⟩)
 have T : CF u1 (w.heap.size + 1) 0 (.int .i64 0) ∧ CF u1 (w.heap.size + 1) 1 (.int .i64 0) ∧ CC u1 w.heap.size 3 4 (.int .i64 wl) (.int .i64 wc) := by
   refine ⟨⟨?_, ?_⟩, ⟨?_, ?_⟩, ⟨?_, ?_⟩⟩ <;> first | (refine kg hb (by omega) ?_; go_simp; first | done | rfl) | (refine kgf hb (by omega) (by first | go_size | omega | (simp only [szA]; omega)) ?_; go_simp; first | done | rfl)
 have hz := hb.size
 (try simp only [szA] at hz)
 have L : w.heap.size + 1 < u1.heap.size ∧ w.heap.size < u1.heap.size := by omega
 have hB' : w.grownBy u1 (some rb) := by
   refine World.grownBy.trans ?_ hb
   (with_reducible repeat (first | assumption | exact World.grownBy.refl _ _ | refine grown_al ?_ _ | (refine grown_new ?_ ?_; rotate_left; (dsimp only; omega))))
 clear hb hz
 obtain ⟨⟨hz_0, fz_0⟩, ⟨hz_1, fz_1⟩, ⟨hx_3, hx_4⟩⟩ := T
 obtain ⟨hlz, hlx⟩ := L
 obtain ⟨hnz0, hnz1, hkz1, hnz2, hkz2⟩ := ap1f hlz
 have hnx2 : ¬ (w.heap.size = u1.heap.size + 1 + 1) := by omega
 have hkx2 : w.heap.size < u1.heap.size + 1 + 1 := by omega
 have hB := hB'; clear hB'
 have hsz := hB.size
 clear hR
 (try dsimp only at hR1)
 have hw1 : w.heap.size + 2 ≤ u1.heap.size := by omega
 have hv0 : ¬ (w.heap.size = u1.heap.size) := by omega
 have hy0 : ¬ (u1.heap.size = w.heap.size) := by omega
 have hv1 : ¬ (w.heap.size + 1 = u1.heap.size) := by omega
 have hy1 : ¬ (u1.heap.size = w.heap.size + 1) := by omega
 go_wp2_with fail
 ((with_reducible refine (HT1.out _ (by (with_reducible repeat (first | assumption | refine Rd.al ?_ _ | (refine Rd.setl ?_ HLOW hkr ?_ _; rotate_left; (dsimp only; omega)))))).mono ?_); rintro _ u2 ⟨rfl, hR2, hb⟩)
 have T : CF u2 (w.heap.size + 1) 0 (.int .i64 0) ∧ CF u2 (w.heap.size + 1) 1 (.int .i64 0) ∧ CC u2 w.heap.size 3 4 (.int .i64 wl) (.int .i64 wc) ∧ CC u2 u1.heap.size 2 3 (.int .i64 an) (.int .i64 al) ∧ u2.cell? ⟨u1.heap.size, 4, none⟩ = some (.int .i64 ac) := by
   refine ⟨⟨?_, ?_⟩, ⟨?_, ?_⟩, ⟨?_, ?_⟩, ⟨?_, ?_⟩, ?_⟩ <;> first | (refine kg hb (by omega) ?_; go_simp; first | done | rfl) | (refine kgf hb (by omega) (by first | go_size | omega | (simp only [szA]; omega)) ?_; go_simp; first | done | rfl)
 have hz := hb.size
 (try simp only [szA] at hz)
 have L : w.heap.size + 1 < u2.heap.size ∧ w.heap.size < u2.heap.size ∧ u1.heap.size < u2.heap.size := by omega
 have hB' : w.grownBy u2 (some rb) := by
   refine World.grownBy.trans ?_ hb
   (with_reducible repeat (first | assumption | exact World.grownBy.refl _ _ | refine grown_al ?_ _ | (refine grown_new ?_ ?_; rotate_left; (dsimp only; omega))))
 clear hz_0 fz_0 hz_1 fz_1 hx_3 hx_4 hlz hlx hnz0 hnz1 hkz1 hnz2 hkz2 hnx2 hkx2 hB hsz
 clear hb hz
 obtain ⟨⟨hz_0, fz_0⟩, ⟨hz_1, fz_1⟩, ⟨hx_3, hx_4⟩, ⟨hf_2, hf_3⟩, hf_4⟩ := T
 obtain ⟨hlz, hlx, hlf⟩ := L
 obtain ⟨hnz0, hnz1, hkz1, hnz2, hkz2⟩ := ap1f hlz
 have hnx2 : ¬ (w.heap.size = u2.heap.size + 1 + 1) := by omega
 have hkx2 : w.heap.size < u2.heap.size + 1 + 1 := by omega
 obtain ⟨hnf0, hnf1, hkf1, hnf2, hkf2⟩ := ap0 hlf
 have hB := hB'; clear hB'
 have hsz := hB.size
 clear hR1
 (try dsimp only at hR2)
 have hku : rb < u2.heap.size := by omega
 have hru : ¬ rb = u2.heap.size := by omega
 have hto := hR2.c5
 have hnn := hR2.c4
 have hf1 := hR2.fr 4 (by omega)
 have hf2 := hR2.fr 5 (by omega)
 subst h2
 (try dsimp only at hto)
 have HM := hid (mayt_c an)
 rw [h3] at HM
 have hrg : ¬ rb = w.heap.size + 1 := by omega
 have hn_0 := hnn; have fn_0 := hf1; have ho_0 := hto; have fo_0 := hf2; clear hnn hf1 hto hf2
 have HG := hid hB
 have HR := hid hR2
 clear hR2
 have hbr : Below u2.heap.size u2 u2 := Below.refl _ _
 go_wp2_with fail
 ((with_reducible refine (HM.out _).mono ?_); rintro _ y ⟨rfl, hb⟩)
 have T : CF y (w.heap.size + 1) 0 (.int .i64 0) ∧ CF y (w.heap.size + 1) 1 (.int .i64 0) ∧ CC y w.heap.size 3 4 (.int .i64 wl) (.int .i64 wc) ∧ CC y u1.heap.size 2 3 (.int .i64 an) (.int .i64 al) ∧ y.cell? ⟨u1.heap.size, 4, none⟩ = some (.int .i64 ac) ∧ CF y rb 4 (.int .i64 stn) ∧ CF y rb 5 (.bool false) := by
   refine ⟨⟨?_, ?_⟩, ⟨?_, ?_⟩, ⟨?_, ?_⟩, ⟨?_, ?_⟩, ?_, ⟨?_, ?_⟩, ⟨?_, ?_⟩⟩ <;> first | (refine kc hb ?_ <;> (go_simp; first | done | rfl)) | (refine kfz hb ?_ ?_ <;> first | (go_size; done) | (go_simp; done))
 have hz := hb.size
 (try simp only [szA] at hz)
 have L : w.heap.size + 1 < y.heap.size ∧ w.heap.size < y.heap.size ∧ u1.heap.size < y.heap.size ∧ rb < y.heap.size ∧ rb < y.heap.size := by omega
 have hB' : Below u2.heap.size u2 y := by
   refine kb ?_ hb
   go_grown
 clear hz_0 fz_0 hz_1 fz_1 hx_3 hx_4 hf_2 hf_3 hf_4 hlz hlx hlf hnz0 hnz1 hkz1 hnz2 hkz2 hnx2 hkx2 hnf0 hnf1 hkf1 hnf2 hkf2 hB hsz
 clear hb hz
 obtain ⟨⟨hz_0, fz_0⟩, ⟨hz_1, fz_1⟩, ⟨hx_3, hx_4⟩, ⟨hf_2, hf_3⟩, hf_4, ⟨hn_0, fn_0⟩, ⟨ho_0, fo_0⟩⟩ := T
 obtain ⟨hlz, hlx, hlf, hln, hlo⟩ := L
 obtain ⟨hnz0, hnz1, hkz1, hnz2, hkz2⟩ := ap1f hlz
 have hnx2 : ¬ (w.heap.size = y.heap.size + 1 + 1) := by omega
 have hkx2 : w.heap.size < y.heap.size + 1 + 1 := by omega
 obtain ⟨hnf0, hnf1, hkf1, hnf2, hkf2⟩ := ap0 hlf
 obtain ⟨hnn0, hnn1, hkn1, hnn2, hkn2⟩ := ap0 hln
 have hB := hB'; clear hB'
 have hsz := hB.size
 have HT := hid ((Tur.of_grown (v := sv) HG.out hlt hsz0).trans (Tur.of_below hB hlt HR.out.sz))
 have HRy := hid (HR.out.on hB)
 go_wp2
 refine bodyPost_ret (v := .tuple #[.agg #[.int .i64 al, .int .i64 ac], .int .i64 10]) (by simp [results, Tryz.results56, go_sem, hz_0, hz_1] <;> first | done | rfl) rfl (setEnd_err HF.out.1 HF.out.2.1 HF.out.2.2 (by decide) ((HT.out.setn hlt hsz0 (by dsimp only; omega) _).setn hlt hsz0 (by dsimp only; omega) _))
set_option maxHeartbeats 8000000 in
theorem settT_O (ak an al ac : Int) (ax : List UInt8) (zk zn zl zc : Int) (zx : List UInt8) (rs : List Tk) (wk wn wl wc : Int) (wx : List UInt8) (ssp : List Mk) (sv : Value) (sdn stn : Int) (sdb stb : Bool) (h0 : ak = 2) (h1 : zk = 4) (h2 : stb = false) (h3 : mayT an = true) (rb S0 : Nat) (w : World) (hR : Rd rb S0 w ⟨⟨ak, ax, an, al, ac⟩ :: ⟨zk, zx, zn, zl, zc⟩ :: rs, ssp, sv, sdn, sdb, stn, stb⟩) :
  Calls Tryz.prog 56 #[.pointer (some ⟨rb, 0, none⟩), tkV ⟨wk, wx, wn, wl, wc⟩, .pointer (some ⟨rb, 4, none⟩), .func (.func 28) #[] #[]] w (SetEnd rb S0 sv w (fun o => ⟨o.r, ssp, sv, sdn, sdb, o.n, true⟩) (settM stb mayT ⟨wk, wx, wn, wl, wc⟩ (⟨ak, ax, an, al, ac⟩ :: ⟨zk, zx, zn, zl, zc⟩ :: rs))) := by
 have hlt := hR.lt
 have hsz0 := hR.sz
 have hkr : rb < w.heap.size := by omega
 have hrw : ¬ rb = w.heap.size := by omega
 have hrw1 : ¬ rb = w.heap.size + 1 := by omega
 have HLOW := hid (show ∀ g, sv.ownBlock = some g → g < w.heap.size from fun g h => (hR.row.2.lt g h).2)
 obtain ⟨O, hO⟩ : ∃ O, settM stb mayT ⟨wk, wx, wn, wl, wc⟩ (⟨ak, ax, an, al, ac⟩ :: ⟨zk, zx, zn, zl, zc⟩ :: rs) = O := ⟨_, rfl⟩
 rw [hO]
 have HF := hid (show O.e = 0 ∧ O.n = an ∧ O.r = rs from by rw [← hO]; simp [settM, h0, h1, h2, h3])
 clear hO
 have ht0 : (ak == 2) = true := by rw [h0]; rfl
 have HT0 := hid (fun W hR => (takei_c 2 rb S0 W ⟨⟨ak, ax, an, al, ac⟩ :: ⟨zk, zx, zn, zl, zc⟩ :: rs, ssp, sv, sdn, sdb, stn, stb⟩ ⟨ak, ax, an, al, ac⟩ (⟨zk, zx, zn, zl, zc⟩ :: rs) rfl hR).mono (fun e w' h => h.1 ht0))
 (try dsimp only [tkV] at HT0)
 have ht1 : (zk == 4) = true := by rw [h1]; rfl
 have HT1 := hid (fun W hR => (takei_c 4 rb S0 W ⟨⟨zk, zx, zn, zl, zc⟩ :: rs, ssp, sv, sdn, sdb, stn, stb⟩ ⟨zk, zx, zn, zl, zc⟩ (rs) rfl hR).mono (fun e w' h => h.1 ht1))
 (try dsimp only [tkV] at HT1)
 clear ht0 ht1
 unfold tkV
 (try dsimp only)
 generalize txB ax = aT at *
 generalize txB zx = zT at *
 generalize txB wx = wT at *
 go_enter Tryz.func56, Tryz.ntmps56
 go_wp2_with fail
 ((with_reducible refine (HT0.out _ (by (with_reducible repeat (first | assumption | refine Rd.al ?_ _ | (refine Rd.setl ?_ HLOW hkr ?_ _; rotate_left; (dsimp only; omega)))))).mono ?_); rintro _ u1 ⟨rfl, hR1, hb⟩)
 have T : CF u1 (w.heap.size + 1) 0 (.int .i64 0) ∧ CF u1 (w.heap.size + 1) 1 (.int .i64 0) ∧ CC u1 w.heap.size 3 4 (.int .i64 wl) (.int .i64 wc) := by
   refine ⟨⟨?_, ?_⟩, ⟨?_, ?_⟩, ⟨?_, ?_⟩⟩ <;> first | (refine kg hb (by omega) ?_; go_simp; first | done | rfl) | (refine kgf hb (by omega) (by first | go_size | omega | (simp only [szA]; omega)) ?_; go_simp; first | done | rfl)
 have hz := hb.size
 (try simp only [szA] at hz)
 have L : w.heap.size + 1 < u1.heap.size ∧ w.heap.size < u1.heap.size := by omega
 have hB' : w.grownBy u1 (some rb) := by
   refine World.grownBy.trans ?_ hb
   (with_reducible repeat (first | assumption | exact World.grownBy.refl _ _ | refine grown_al ?_ _ | (refine grown_new ?_ ?_; rotate_left; (dsimp only; omega))))
 clear hb hz
 obtain ⟨⟨hz_0, fz_0⟩, ⟨hz_1, fz_1⟩, ⟨hx_3, hx_4⟩⟩ := T
 obtain ⟨hlz, hlx⟩ := L
 obtain ⟨hnz0, hnz1, hkz1, hnz2, hkz2⟩ := ap1f hlz
 have hnx2 : ¬ (w.heap.size = u1.heap.size + 1 + 1) := by omega
 have hkx2 : w.heap.size < u1.heap.size + 1 + 1 := by omega
 have hB := hB'; clear hB'
 have hsz := hB.size
 clear hR
 (try dsimp only at hR1)
 have hw1 : w.heap.size + 2 ≤ u1.heap.size := by omega
 have hv0 : ¬ (w.heap.size = u1.heap.size) := by omega
 have hy0 : ¬ (u1.heap.size = w.heap.size) := by omega
 have hv1 : ¬ (w.heap.size + 1 = u1.heap.size) := by omega
 have hy1 : ¬ (u1.heap.size = w.heap.size + 1) := by omega
 go_wp2_with fail
 ((with_reducible refine (HT1.out _ (by (with_reducible repeat (first | assumption | refine Rd.al ?_ _ | (refine Rd.setl ?_ HLOW hkr ?_ _; rotate_left; (dsimp only; omega)))))).mono ?_); rintro _ u2 ⟨rfl, hR2, hb⟩)
 have T : CF u2 (w.heap.size + 1) 0 (.int .i64 0) ∧ CF u2 (w.heap.size + 1) 1 (.int .i64 0) ∧ CC u2 w.heap.size 3 4 (.int .i64 wl) (.int .i64 wc) ∧ CC u2 u1.heap.size 2 3 (.int .i64 an) (.int .i64 al) ∧ u2.cell? ⟨u1.heap.size, 4, none⟩ = some (.int .i64 ac) := by
   refine ⟨⟨?_, ?_⟩, ⟨?_, ?_⟩, ⟨?_, ?_⟩, ⟨?_, ?_⟩, ?_⟩ <;> first | (refine kg hb (by omega) ?_; go_simp; first | done | rfl) | (refine kgf hb (by omega) (by first | go_size | omega | (simp only [szA]; omega)) ?_; go_simp; first | done | rfl)
 have hz := hb.size
 (try simp only [szA] at hz)
 have L : w.heap.size + 1 < u2.heap.size ∧ w.heap.size < u2.heap.size ∧ u1.heap.size < u2.heap.size := by omega
 have hB' : w.grownBy u2 (some rb) := by
   refine World.grownBy.trans ?_ hb
   (with_reducible repeat (first | assumption | exact World.grownBy.refl _ _ | refine grown_al ?_ _ | (refine grown_new ?_ ?_; rotate_left; (dsimp only; omega))))
 clear hz_0 fz_0 hz_1 fz_1 hx_3 hx_4 hlz hlx hnz0 hnz1 hkz1 hnz2 hkz2 hnx2 hkx2 hB hsz
 clear hb hz
 obtain ⟨⟨hz_0, fz_0⟩, ⟨hz_1, fz_1⟩, ⟨hx_3, hx_4⟩, ⟨hf_2, hf_3⟩, hf_4⟩ := T
 obtain ⟨hlz, hlx, hlf⟩ := L
 obtain ⟨hnz0, hnz1, hkz1, hnz2, hkz2⟩ := ap1f hlz
 have hnx2 : ¬ (w.heap.size = u2.heap.size + 1 + 1) := by omega
 have hkx2 : w.heap.size < u2.heap.size + 1 + 1 := by omega
 obtain ⟨hnf0, hnf1, hkf1, hnf2, hkf2⟩ := ap0 hlf
 have hB := hB'; clear hB'
 have hsz := hB.size
 clear hR1
 (try dsimp only at hR2)
 have hku : rb < u2.heap.size := by omega
 have hru : ¬ rb = u2.heap.size := by omega
 have hto := hR2.c5
 have hnn := hR2.c4
 have hf1 := hR2.fr 4 (by omega)
 have hf2 := hR2.fr 5 (by omega)
 subst h2
 (try dsimp only at hto)
 have HM := hid (mayt_c an)
 rw [h3] at HM
 have hrg : ¬ rb = w.heap.size + 1 := by omega
 have hn_0 := hnn; have fn_0 := hf1; have ho_0 := hto; have fo_0 := hf2; clear hnn hf1 hto hf2
 have HG := hid hB
 have HR := hid hR2
 clear hR2
 have hbr : Below u2.heap.size u2 u2 := Below.refl _ _
 go_wp2_with fail
 ((with_reducible refine (HM.out _).mono ?_); rintro _ y ⟨rfl, hb⟩)
 have T : CF y (w.heap.size + 1) 0 (.int .i64 0) ∧ CF y (w.heap.size + 1) 1 (.int .i64 0) ∧ CC y w.heap.size 3 4 (.int .i64 wl) (.int .i64 wc) ∧ CC y u1.heap.size 2 3 (.int .i64 an) (.int .i64 al) ∧ y.cell? ⟨u1.heap.size, 4, none⟩ = some (.int .i64 ac) ∧ CF y rb 4 (.int .i64 stn) ∧ CF y rb 5 (.bool false) := by
   refine ⟨⟨?_, ?_⟩, ⟨?_, ?_⟩, ⟨?_, ?_⟩, ⟨?_, ?_⟩, ?_, ⟨?_, ?_⟩, ⟨?_, ?_⟩⟩ <;> first | (refine kc hb ?_ <;> (go_simp; first | done | rfl)) | (refine kfz hb ?_ ?_ <;> first | (go_size; done) | (go_simp; done))
 have hz := hb.size
 (try simp only [szA] at hz)
 have L : w.heap.size + 1 < y.heap.size ∧ w.heap.size < y.heap.size ∧ u1.heap.size < y.heap.size ∧ rb < y.heap.size ∧ rb < y.heap.size := by omega
 have hB' : Below u2.heap.size u2 y := by
   refine kb ?_ hb
   go_grown
 clear hz_0 fz_0 hz_1 fz_1 hx_3 hx_4 hf_2 hf_3 hf_4 hlz hlx hlf hnz0 hnz1 hkz1 hnz2 hkz2 hnx2 hkx2 hnf0 hnf1 hkf1 hnf2 hkf2 hB hsz
 clear hb hz
 obtain ⟨⟨hz_0, fz_0⟩, ⟨hz_1, fz_1⟩, ⟨hx_3, hx_4⟩, ⟨hf_2, hf_3⟩, hf_4, ⟨hn_0, fn_0⟩, ⟨ho_0, fo_0⟩⟩ := T
 obtain ⟨hlz, hlx, hlf, hln, hlo⟩ := L
 obtain ⟨hnz0, hnz1, hkz1, hnz2, hkz2⟩ := ap1f hlz
 have hnx2 : ¬ (w.heap.size = y.heap.size + 1 + 1) := by omega
 have hkx2 : w.heap.size < y.heap.size + 1 + 1 := by omega
 obtain ⟨hnf0, hnf1, hkf1, hnf2, hkf2⟩ := ap0 hlf
 obtain ⟨hnn0, hnn1, hkn1, hnn2, hkn2⟩ := ap0 hln
 have hB := hB'; clear hB'
 have hsz := hB.size
 have HT := hid ((Tur.of_grown (v := sv) HG.out hlt hsz0).trans (Tur.of_below hB hlt HR.out.sz))
 have HRy := hid (HR.out.on hB)
 go_wp2
 refine bodyPost_ret (v := .tuple #[.agg #[.int .i64 0, .int .i64 0], .int .i64 0]) (by simp [results, Tryz.results56, go_sem, hz_0, hz_1] <;> first | done | rfl) rfl (setEnd_ok HF.out.1 ?_ ((((HT.out.set _ _).set _ _).setn hlt hsz0 (by dsimp only; omega) _).setn hlt hsz0 (by dsimp only; omega) _))
 rw [HF.out.2.1, HF.out.2.2]
 exact ((HRy.out.setT an true).setl HLOW hkr (by dsimp only; omega) _).setl HLOW hkr (by dsimp only; omega) _
end Go.Proofs.YtjcmblbnbpikfaaGreatDoor
