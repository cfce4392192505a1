/- Layer 7, the program's -/
import Derived.Test.YtjcmblbnbpikfaaGreatDoorCheck
import Derived.Test.YtjcmblbnbpikfaaGreatDoorAwake6
set_option linter.unusedSimpArgs false
set_option linter.unusedVariables false
set_option maxRecDepth 100000
namespace Go.Proofs.YtjcmblbnbpikfaaGreatDoor
open Lib (hid)
open Go.RowKit Go.PlainAid

theorem tok_size (w : World) : (Go.sizeOf 81).run Tryz.prog w = .ok 5 w := by kernel_rfl
theorem slice_rest (g o n cap : Nat) (hc : n + 1 ≤ cap) (W : World) : (Instr.slice 56 (.slice (some ⟨g, o, none⟩) (n + 1) cap) (some (.int .i64 1)) none none).run Tryz.prog W = .ok (.slice (some (if cap = 1 then ⟨g, o, none⟩ else ⟨g, o + 5, none⟩)) n (cap - 1)) W := by
 have e := tok_size W
 have e2 := run_underlying (w := W) Tryz.underlying56
 simp [Instr.slice, Instr.sliceBounds, Instr.sliceBound, asIntOf, e2, e, go_sem]
 rw [if_pos (by omega)]
 by_cases c : cap = 1 <;> simp [c]
theorem rest_holds {w : World} {g o cap : Nat} {x : Tk} {r : List Tk} (hc : r.length + 1 ≤ cap) (h : ∀ j (y : Tk), (x :: r)[j]? = some y → w.cell? ⟨g, o + j * 5, none⟩ = some (.int .i64 y.k) ∧ w.cell? ⟨g, o + j * 5 + 1, none⟩ = some (.string (txB y.t)) ∧ w.cell? ⟨g, o + j * 5 + 2, none⟩ = some (.int .i64 y.n) ∧ w.cell? ⟨g, o + j * 5 + 3, none⟩ = some (.int .i64 y.line) ∧ w.cell? ⟨g, o + j * 5 + 4, none⟩ = some (.int .i64 y.col)) :
  HoldsT w (.slice (some (if cap = 1 then ⟨g, o, none⟩ else ⟨g, o + 5, none⟩)) r.length (cap - 1)) r := by
 by_cases c : cap = 1
 ·obtain rfl : r = [] := List.length_eq_zero_iff.1 (by omega)
  rw [if_pos c]
  exact .inr ⟨g, o, cap - 1, rfl, by simp, fun j y hy => by simp at hy⟩
 ·rw [if_neg c]
  refine .inr ⟨g, o + 5, cap - 1, rfl, by omega, fun j y hy => ?_⟩
  have := h (j + 1) y (by simpa using hy)
  rw [show o + (j + 1) * 5 = o + 5 + j * 5 from by omega] at this
  exact this
structure St where
 left : List Tk
 sp : List Mk
 v : Value
 dn : Int
 db : Bool
 tn : Int
 tb : Bool
structure Rd (rb S0 : Nat) (w : World) (s : St) : Prop where
 left : ∃ v, w.cell? ⟨rb, 0, none⟩ = some v ∧ HoldsT w v s.left ∧ ∀ g, v.ownBlock = some g → g < rb
 row : w.cell? ⟨rb, 1, none⟩ = some s.v ∧ w.ownsRow S0 65 4 s.v s.sp.length (s.sp.flatMap Mk.cells)
 c2 : w.cell? ⟨rb, 2, none⟩ = some (.int .i64 s.dn)
 c3 : w.cell? ⟨rb, 3, none⟩ = some (.bool s.db)
 c4 : w.cell? ⟨rb, 4, none⟩ = some (.int .i64 s.tn)
 c5 : w.cell? ⟨rb, 5, none⟩ = some (.bool s.tb)
 fr : ∀ o, o < 6 → w.frozen? ⟨rb, o, none⟩ = false
 lt : rb < S0
 sz : S0 ≤ w.heap.size
structure Tur (rb S0 : Nat) (v : Value) (w w' : World) : Prop where
 below : Below rb w w'
 keep : ∀ b, b < S0 → b ≠ rb → w'.heap[b]? = w.heap[b]?
 keep2 : ∀ b, b < w.heap.size → b ≠ rb → some b ≠ v.ownBlock → w'.heap[b]? = w.heap[b]?
theorem Tur.refl (rb S0 : Nat) (v : Value) (w : World) : Tur rb S0 v w w := ⟨Below.refl _ _, fun _ _ _ => rfl, fun _ _ _ _ => rfl⟩
theorem Tur.trans {rb S0 : Nat} {v : Value} {a b c : World} (h : Tur rb S0 v a b) (g : Tur rb S0 v b c) : Tur rb S0 v a c :=
 ⟨h.below.trans g.below, fun k h1 h2 => (g.keep k h1 h2).trans (h.keep k h1 h2), fun k h1 h2 h3 => (g.keep2 k (Nat.lt_of_lt_of_le h1 h.below.size) h2 h3).trans (h.keep2 k h1 h2 h3)⟩
theorem Tur.of_below {rb S0 : Nat} {v : Value} {w u : World} (h : Below w.heap.size w u) (h1 : rb < S0) (h2 : S0 ≤ w.heap.size) : Tur rb S0 v w u := ⟨h.mono (by omega), fun b hb _ => h.block b (by omega), fun b hb _ _ => h.block b hb⟩
theorem Tur.of_grown {rb S0 : Nat} {v : Value} {w u : World} (h : w.grownBy u (some rb)) (h1 : rb < S0) (h2 : S0 ≤ w.heap.size) : Tur rb S0 v w u :=
 ⟨⟨h.os, h.tape, h.output, h.size, fun b hb => h.block b (by omega) (by simp; omega)⟩, fun b hb hne => h.block b (by omega) (by simpa using hne), fun b hb hne _ => h.block b hb (by simpa using hne)⟩
theorem Tur.cell {rb S0 : Nat} {y : Value} {w u : World} (h : Tur rb S0 y w u) {b o : Nat} {v : Value} (h1 : b < S0) (h2 : b ≠ rb) (hc : w.cell? ⟨b, o, none⟩ = some v) : u.cell? ⟨b, o, none⟩ = some v := (World.cell?_of_block (h.keep b h1 h2)).trans hc
theorem Rd.on {rb S0 : Nat} {w u : World} {s : St} (h : Rd rb S0 w s) (hb : Below w.heap.size w u) : Rd rb S0 u s := by
 obtain ⟨v, a1, a2, a3⟩ := h.left
 obtain ⟨b1, b2⟩ := h.row
 exact ⟨⟨v, kc hb a1, a2.below hb, a3⟩, ⟨kc hb b1, own_below b2 hb⟩, kc hb h.c2, kc hb h.c3, kc hb h.c4, kc hb h.c5, fun o ho => kfz hb (klt h.c2) (h.fr o ho), h.lt, Nat.le_trans h.sz hb.size⟩
theorem holdsT_grown {w u : World} {v : Value} {l : List Tk} {A : Nat} (h : HoldsT w v l) (hg : w.grownBy u (some A)) (hA : ∀ g, v.ownBlock = some g → g ≠ A) : HoldsT u v l := by
 rcases h with h | ⟨g, o, cap, e, hc, h⟩
 ·exact .inl h
 ·have hn := hA g (by rw [e]; rfl)
  exact .inr ⟨g, o, cap, e, hc, fun j x hx => by obtain ⟨a0, a1, a2, a3, a4⟩ := h j x hx; exact ⟨kg hg hn a0, kg hg hn a1, kg hg hn a2, kg hg hn a3, kg hg hn a4⟩⟩
theorem own_grown {w u : World} {B size n A : Nat} {e : TypeId} {v : Value} {xs : List Value} (h : w.ownsRow B e size v n xs) (hg : w.grownBy u (some A)) (hA : A < B) : u.ownsRow B e size v n xs := by
 refine ⟨h.1, ?_⟩
 rcases h.2 with h2 | ⟨g, cap, cur, h1, h2, h3, r⟩
 ·exact .inl h2
 ·exact .inr ⟨g, cap, cur, h1, h2, (hg.block g (Array.getElem?_eq_some_iff.1 h3).1 (by simp; omega)).trans h3, r⟩
theorem grown_new {w u : World} {A : Nat} {p : Addr} {v : Value} (hg : w.grownBy u (some A)) (hp : w.heap.size ≤ p.block) : w.grownBy (u.setCell p v) (some A) := by
 refine ⟨hg.os, hg.tape, hg.output, by rw [World.size_setCell]; exact hg.size, fun k hk hn => ?_⟩
 exact (Below.heap_setCell u p v k (by omega)).trans (hg.block k hk hn)
theorem Rd.next {rb S0 : Nat} {w u : World} {s : St} {r : List Tk} (h : Rd rb S0 w s) (hg : w.grownBy u (some rb)) {v' : Value} (hc : u.cell? ⟨rb, 0, none⟩ = some v') (hk : ∀ o, o ≠ 0 → u.cell? ⟨rb, o, none⟩ = w.cell? ⟨rb, o, none⟩) (hf : ∀ o, u.frozen? ⟨rb, o, none⟩ = w.frozen? ⟨rb, o, none⟩)
  (hv : HoldsT w v' r) (hl : ∀ g, v'.ownBlock = some g → g < rb) : Rd rb S0 u { s with left := r } := by
 obtain ⟨b1, b2⟩ := h.row
 exact ⟨⟨v', hc, holdsT_grown hv hg (fun g e => by have := hl g e; omega), hl⟩, ⟨(hk 1 (by omega)).trans b1, own_grown b2 hg h.lt⟩, (hk 2 (by omega)).trans h.c2, (hk 3 (by omega)).trans h.c3, (hk 4 (by omega)).trans h.c4, (hk 5 (by omega)).trans h.c5, fun o ho => (hf o).trans (h.fr o ho), h.lt, Nat.le_trans h.sz hg.size⟩
theorem grown_al {w u : World} {A : Nat} (hg : w.grownBy u (some A)) (o : Obj) : w.grownBy (u.alloc o) (some A) := hg.trans (World.grownBy_alloc u o _)
theorem grown_be {w u : World} (hb : Below w.heap.size w u) (A : Nat) : w.grownBy u (some A) := World.grownBy.but ⟨hb.os, hb.tape, hb.output, hb.size, fun i hi _ => hb.block i hi⟩ _
theorem kind_c (k n li co : Int) (T : ByteArray) (w : World) : Calls Tryz.prog 73 #[.agg #[.int .i64 k, .string T, .int .i64 n, .int .i64 li, .int .i64 co]] w fun e w' => e = .returned (.int .i64 k) ∧ Below w.heap.size w w' := by
 go_enter Tryz.func73, Tryz.ntmps73
 go_wp2
 go_ret
 exact ⟨rfl, by go_grown⟩
theorem text_c (k n li co : Int) (T : ByteArray) (w : World) : Calls Tryz.prog 76 #[.agg #[.int .i64 k, .string T, .int .i64 n, .int .i64 li, .int .i64 co]] w fun e w' => e = .returned (.string T) ∧ Below w.heap.size w w' := by
 go_enter Tryz.func76, Tryz.ntmps76
 go_wp2
 go_ret
 exact ⟨rfl, by go_grown⟩
abbrev tkV (x : Tk) : Value := .agg #[.int .i64 x.k, .string (txB x.t), .int .i64 x.n, .int .i64 x.line, .int .i64 x.col]
def TakeEnd (rb S0 : Nat) (w : World) (s : St) (x : Tk) (r : List Tk) (ok : Bool) : Ending → World → Prop := fun e w' =>
 (ok = true → e = .returned (.tuple #[tkV x, .bool true]) ∧ Rd rb S0 w' { s with left := r } ∧ w.grownBy w' (some rb)) ∧
 (ok = false → e = .returned (.tuple #[.agg #[.int .i64 0, .string ⟨#[]⟩, .int .i64 0, .int .i64 0, .int .i64 0], .bool false]) ∧ Rd rb S0 w' s ∧ w.grownBy w' (some rb))
set_option maxHeartbeats 2000000 in
theorem takei_c (K : Int) (rb S0 : Nat) (w : World) (s : St) (x : Tk) (r : List Tk) (hs : s.left = x :: r) (hr : Rd rb S0 w s) :
  Calls Tryz.prog 72 #[.pointer (some ⟨rb, 0, none⟩), .func (.func 73) #[] #[], .int .i64 K] w (TakeEnd rb S0 w s x r (x.k == K)) := by
 obtain ⟨v, a1, a2, a3⟩ := hr.left
 rw [hs] at a2
 rcases a2 with ⟨_, h⟩ | ⟨g, o, cap, rfl, hcap, hc⟩
 ·cases h
 have hgr : g < rb := a3 g rfl
 obtain ⟨t0, t1, t2, t3, t4⟩ := hc 0 x rfl
 rw [Nat.zero_mul, Nat.add_zero] at t0 t1 t2 t3 t4
 have hn : (x :: r).length = r.length + 1 := rfl
 rw [hn] at a1 hcap
 have q := slice_rest g o r.length cap hcap
 have hv' := rest_holds (w := w) hcap hc
 obtain ⟨v', hv2⟩ : ∃ v', (Value.slice (some (if cap = 1 then ⟨g, o, none⟩ else ⟨g, o + 5, none⟩)) r.length (cap - 1)) = v' := ⟨_, rfl⟩
 have hl' : ∀ g', v'.ownBlock = some g' → g' < rb := fun g' e => by
  rw [← hv2] at e
  by_cases c : cap = 1
  ·rw [if_pos c] at e; cases e; exact hgr
  ·rw [if_neg c] at e; cases e; exact hgr
 rw [hv2] at q hv'
 have HV := hid (And.intro hv' hl')
 have f0 := hr.fr 0 (by omega)
 have hlt := hr.lt
 have hsz0 := hr.sz
 have HR := hid hr
 obtain ⟨p1, cp1, n1, rfl⟩ : ∃ p c n, v' = .slice p n c := ⟨_, _, _, hv2.symm⟩
 clear hv2 hv' hl' hc hcap a3 hs hr hn
 obtain ⟨xk, xt, xn, xl, xc⟩ := x
 dsimp only at t0 t1 t2 t3 t4 ⊢
 generalize hT : txB xt = T at *
 have HT := hid hT
 clear hT
 have HK := hid (kind_c xk xn xl xc T)
 obtain ⟨n, hn⟩ : ∃ n, r.length + 1 = n := ⟨_, rfl⟩
 have hpos : (0 : Int) < (n : Int) := by omega
 have hpos2 : 0 < n := by omega
 rw [hn] at q a1
 clear hn
 obtain ⟨B, hBk⟩ : ∃ B, (xk == K) = B := ⟨_, rfl⟩
 rw [hBk]
 have HBk := hid hBk
 clear hBk
 have hkr : rb < w.heap.size := by omega
 have hkg : g < w.heap.size := by omega
 have hgw : ¬ g = w.heap.size := by omega
 have hgw1 : ¬ g = w.heap.size + 1 := by omega
 have hrw : ¬ rb = w.heap.size := by omega
 have hrw1 : ¬ rb = w.heap.size + 1 := by omega
 have hr_0 := a1
 have fr_0 := f0
 clear a1 f0
 go_enter Tryz.func72, Tryz.ntmps72
 go_wp2_with fail
 ((with_reducible refine (HK.out _).mono ?_); rintro _ u1 ⟨rfl, hb⟩)
 have T : CF u1 rb 0 (.slice (some ⟨g, o, none⟩) n cap) ∧ CC u1 g o (o + 1) (.int .i64 xk) (.string T) ∧ CC u1 g (o + 2) (o + 3) (.int .i64 xn) (.int .i64 xl) ∧ u1.cell? ⟨g, o + 4, none⟩ = some (.int .i64 xc) ∧ CF u1 w.heap.size 0 (.int .i64 0) ∧ CF u1 w.heap.size 1 (.string ⟨#[]⟩) ∧ CF u1 w.heap.size 2 (.int .i64 0) ∧ CF u1 w.heap.size 3 (.int .i64 0) ∧ CF u1 w.heap.size 4 (.int .i64 0) ∧ CC u1 (w.heap.size + 1) 0 1 (.int .i64 xk) (.string T) ∧ CC u1 (w.heap.size + 1) 2 3 (.int .i64 xn) (.int .i64 xl) ∧ u1.cell? ⟨w.heap.size + 1, 4, none⟩ = some (.int .i64 xc) := by
   refine ⟨⟨?_, ?_⟩, ⟨?_, ?_⟩, ⟨?_, ?_⟩, ?_, ⟨?_, ?_⟩, ⟨?_, ?_⟩, ⟨?_, ?_⟩, ⟨?_, ?_⟩, ⟨?_, ?_⟩, ⟨?_, ?_⟩, ⟨?_, ?_⟩, ?_⟩ <;> first | (refine kc hb ?_ <;> (go_simp; first | done | rfl)) | (refine kfz hb ?_ ?_ <;> first | (go_size; done) | (go_simp; done))
 have hz := hb.size
 (try simp only [szA] at hz)
 have L : rb < u1.heap.size ∧ g < u1.heap.size ∧ w.heap.size < u1.heap.size ∧ w.heap.size + 1 < u1.heap.size := by omega
 have hB' : Below w.heap.size w u1 := by
   refine kb ?_ hb
   go_grown
 clear hb hz
 obtain ⟨⟨hr_0, fr_0⟩, ⟨ht_0, ht_1⟩, ⟨ht_2, ht_3⟩, ht_4, ⟨hz_0, fz_0⟩, ⟨hz_1, fz_1⟩, ⟨hz_2, fz_2⟩, ⟨hz_3, fz_3⟩, ⟨hz_4, fz_4⟩, ⟨hy_0, hy_1⟩, ⟨hy_2, hy_3⟩, hy_4⟩ := T
 obtain ⟨hlr, hlt, hlz, hly⟩ := L
 obtain ⟨hnr0, hnr1, hkr1, hnr2, hkr2⟩ := ap0 hlr
 obtain ⟨hnt0, hnt1, hkt1, hnt2, hkt2⟩ := ap0 hlt
 obtain ⟨hnz0, hnz1, hkz1, hnz2, hkz2⟩ := ap0 hlz
 obtain ⟨hny0, hky1⟩ := ap1 hly
 have hB := hB'; clear hB'
 have hsz := hB.size
 cases B
 ·have hk2 : (xk != K) = true := by unfold bne; rw [HBk.out]; rfl
  go_wp2
  refine bodyPost_ret (v := .tuple #[.agg #[.int .i64 0, .string ⟨#[]⟩, .int .i64 0, .int .i64 0, .int .i64 0], .bool false]) (by simp [results, Tryz.results72, go_sem, hz_0, hz_1, hz_2, hz_3, hz_4] <;> first | done | rfl) rfl ⟨fun h => (by cases h), fun _ => (fun hbe => ⟨rfl, HR.out.on hbe, grown_be hbe _⟩) (by go_grown)⟩
 ·have hk2 : (xk != K) = false := by unfold bne; rw [HBk.out]; rfl
  have HG := hid (show w.grownBy u1 (some rb) from World.grownBy.but ⟨hB.os, hB.tape, hB.output, hB.size, fun i hi _ => hB.block i hi⟩ _)
  have HBs := hid hB
  go_wp2
  refine bodyPost_ret (v := .tuple #[tkV ⟨xk, xt, xn, xl, xc⟩, .bool true]) (by rw [← HT.out]; simp [results, Tryz.results72, go_sem, hz_0, hz_1, hz_2, hz_3, hz_4, ht_0, ht_1, ht_2, ht_3, ht_4, hy_0, hy_1, hy_2, hy_3, hy_4, HT.out] <;> first | done | rfl) rfl ⟨fun _ => ⟨rfl, ?_, ?_⟩, fun h => (by cases h)⟩
  ·refine HR.out.next ?_ (v' := .slice p1 n1 cp1) ?_ ?_ ?_ HV.out.1 HV.out.2
   ·iterate 5 (refine grown_new ?_ (Nat.le_refl _))
    exact grown_set HG.out
   ·go_simp
   ·intro o ho
    (repeat rw [World.cell?_setCell_other _ _ _ _ (by first | (simp; done) | (simp; omega))])
    exact HBs.out.cell (p := ⟨rb, o, none⟩) hkr
   ·intro o
    (repeat rw [World.frozen?_setCell])
    exact HBs.out.frozen (p := ⟨rb, o, none⟩) hkr
  ·iterate 5 (refine grown_new ?_ (Nat.le_refl _))
   exact grown_set HG.out
set_option maxHeartbeats 2000000 in
theorem takes_c (kl : List UInt8) (rb S0 : Nat) (w : World) (s : St) (x : Tk) (r : List Tk) (hs : s.left = x :: r) (hr : Rd rb S0 w s) :
  Calls Tryz.prog 75 #[.pointer (some ⟨rb, 0, none⟩), .func (.func 76) #[] #[], .string (txB kl)] w (TakeEnd rb S0 w s x r (x.t == kl)) := by
 obtain ⟨v, a1, a2, a3⟩ := hr.left
 rw [hs] at a2
 rcases a2 with ⟨_, h⟩ | ⟨g, o, cap, rfl, hcap, hc⟩
 ·cases h
 have hgr : g < rb := a3 g rfl
 obtain ⟨t0, t1, t2, t3, t4⟩ := hc 0 x rfl
 rw [Nat.zero_mul, Nat.add_zero] at t0 t1 t2 t3 t4
 have hn : (x :: r).length = r.length + 1 := rfl
 rw [hn] at a1 hcap
 have q := slice_rest g o r.length cap hcap
 have hv' := rest_holds (w := w) hcap hc
 obtain ⟨v', hv2⟩ : ∃ v', (Value.slice (some (if cap = 1 then ⟨g, o, none⟩ else ⟨g, o + 5, none⟩)) r.length (cap - 1)) = v' := ⟨_, rfl⟩
 have hl' : ∀ g', v'.ownBlock = some g' → g' < rb := fun g' e => by
  rw [← hv2] at e
  by_cases c : cap = 1
  ·rw [if_pos c] at e; cases e; exact hgr
  ·rw [if_neg c] at e; cases e; exact hgr
 rw [hv2] at q hv'
 have HV := hid (And.intro hv' hl')
 have f0 := hr.fr 0 (by omega)
 have hlt := hr.lt
 have hsz0 := hr.sz
 have HR := hid hr
 obtain ⟨p1, cp1, n1, rfl⟩ : ∃ p c n, v' = .slice p n c := ⟨_, _, _, hv2.symm⟩
 clear hv2 hv' hl' hc hcap a3 hs hr hn
 obtain ⟨xk, xt, xn, xl, xc⟩ := x
 dsimp only at t0 t1 t2 t3 t4 ⊢
 generalize hT : txB xt = T at *
 have HT := hid hT
 clear hT
 have HK := hid (text_c xk xn xl xc T)
 obtain ⟨n, hn⟩ : ∃ n, r.length + 1 = n := ⟨_, rfl⟩
 have hpos : (0 : Int) < (n : Int) := by omega
 have hpos2 : 0 < n := by omega
 rw [hn] at q a1
 clear hn
 generalize hKK : txB kl = K at *
 have HKK := hid hKK
 clear hKK
 obtain ⟨B, hBk⟩ : ∃ B, (xt == kl) = B := ⟨_, rfl⟩
 rw [hBk]
 have HBk := hid hBk
 clear hBk
 have hkr : rb < w.heap.size := by omega
 have hkg : g < w.heap.size := by omega
 have hgw : ¬ g = w.heap.size := by omega
 have hgw1 : ¬ g = w.heap.size + 1 := by omega
 have hrw : ¬ rb = w.heap.size := by omega
 have hrw1 : ¬ rb = w.heap.size + 1 := by omega
 have hr_0 := a1
 have fr_0 := f0
 clear a1 f0
 go_enter Tryz.func75, Tryz.ntmps75
 go_wp2_with fail
 ((with_reducible refine (HK.out _).mono ?_); rintro _ u1 ⟨rfl, hb⟩)
 have T : CF u1 rb 0 (.slice (some ⟨g, o, none⟩) n cap) ∧ CC u1 g o (o + 1) (.int .i64 xk) (.string T) ∧ CC u1 g (o + 2) (o + 3) (.int .i64 xn) (.int .i64 xl) ∧ u1.cell? ⟨g, o + 4, none⟩ = some (.int .i64 xc) ∧ CF u1 w.heap.size 0 (.int .i64 0) ∧ CF u1 w.heap.size 1 (.string ⟨#[]⟩) ∧ CF u1 w.heap.size 2 (.int .i64 0) ∧ CF u1 w.heap.size 3 (.int .i64 0) ∧ CF u1 w.heap.size 4 (.int .i64 0) ∧ CC u1 (w.heap.size + 1) 0 1 (.int .i64 xk) (.string T) ∧ CC u1 (w.heap.size + 1) 2 3 (.int .i64 xn) (.int .i64 xl) ∧ u1.cell? ⟨w.heap.size + 1, 4, none⟩ = some (.int .i64 xc) := by
   refine ⟨⟨?_, ?_⟩, ⟨?_, ?_⟩, ⟨?_, ?_⟩, ?_, ⟨?_, ?_⟩, ⟨?_, ?_⟩, ⟨?_, ?_⟩, ⟨?_, ?_⟩, ⟨?_, ?_⟩, ⟨?_, ?_⟩, ⟨?_, ?_⟩, ?_⟩ <;> first | (refine kc hb ?_ <;> (go_simp; first | done | rfl)) | (refine kfz hb ?_ ?_ <;> first | (go_size; done) | (go_simp; done))
 have hz := hb.size
 (try simp only [szA] at hz)
 have L : rb < u1.heap.size ∧ g < u1.heap.size ∧ w.heap.size < u1.heap.size ∧ w.heap.size + 1 < u1.heap.size := by omega
 have hB' : Below w.heap.size w u1 := by
   refine kb ?_ hb
   go_grown
 clear hb hz
 obtain ⟨⟨hr_0, fr_0⟩, ⟨ht_0, ht_1⟩, ⟨ht_2, ht_3⟩, ht_4, ⟨hz_0, fz_0⟩, ⟨hz_1, fz_1⟩, ⟨hz_2, fz_2⟩, ⟨hz_3, fz_3⟩, ⟨hz_4, fz_4⟩, ⟨hy_0, hy_1⟩, ⟨hy_2, hy_3⟩, hy_4⟩ := T
 obtain ⟨hlr, hlt, hlz, hly⟩ := L
 obtain ⟨hnr0, hnr1, hkr1, hnr2, hkr2⟩ := ap0 hlr
 obtain ⟨hnt0, hnt1, hkt1, hnt2, hkt2⟩ := ap0 hlt
 obtain ⟨hnz0, hnz1, hkz1, hnz2, hkz2⟩ := ap0 hlz
 obtain ⟨hny0, hky1⟩ := ap1 hly
 have hB := hB'; clear hB'
 have hsz := hB.size
 cases B
 ·have hk2 : (!T.toList == K.toList) = true := by rw [← HT.out, ← HKK.out, txB_toList, txB_toList, HBk.out]; rfl
  go_wp2
  refine bodyPost_ret (v := .tuple #[.agg #[.int .i64 0, .string ⟨#[]⟩, .int .i64 0, .int .i64 0, .int .i64 0], .bool false]) (by simp [results, Tryz.results75, go_sem, hz_0, hz_1, hz_2, hz_3, hz_4] <;> first | done | rfl) rfl ⟨fun h => (by cases h), fun _ => (fun hbe => ⟨rfl, HR.out.on hbe, grown_be hbe _⟩) (by go_grown)⟩
 ·have hk2 : (!T.toList == K.toList) = false := by rw [← HT.out, ← HKK.out, txB_toList, txB_toList, HBk.out]; rfl
  have HG := hid (show w.grownBy u1 (some rb) from World.grownBy.but ⟨hB.os, hB.tape, hB.output, hB.size, fun i hi _ => hB.block i hi⟩ _)
  have HBs := hid hB
  go_wp2
  refine bodyPost_ret (v := .tuple #[tkV ⟨xk, xt, xn, xl, xc⟩, .bool true]) (by rw [← HT.out]; simp [results, Tryz.results75, go_sem, hz_0, hz_1, hz_2, hz_3, hz_4, ht_0, ht_1, ht_2, ht_3, ht_4, hy_0, hy_1, hy_2, hy_3, hy_4, HT.out] <;> first | done | rfl) rfl ⟨fun _ => ⟨rfl, ?_, ?_⟩, fun h => (by cases h)⟩
  ·refine HR.out.next ?_ (v' := .slice p1 n1 cp1) ?_ ?_ ?_ HV.out.1 HV.out.2
   ·iterate 5 (refine grown_new ?_ (Nat.le_refl _))
    exact grown_set HG.out
   ·go_simp
   ·intro o ho
    (repeat rw [World.cell?_setCell_other _ _ _ _ (by first | (simp; done) | (simp; omega))])
    exact HBs.out.cell (p := ⟨rb, o, none⟩) hkr
   ·intro o
    (repeat rw [World.frozen?_setCell])
    exact HBs.out.frozen (p := ⟨rb, o, none⟩) hkr
  ·iterate 5 (refine grown_new ?_ (Nat.le_refl _))
   exact grown_set HG.out
end Go.Proofs.YtjcmblbnbpikfaaGreatDoor
