/- Layer 7, the program's -/
import Derived.Test.YtjcmblbnbpikfaaGreatDoorTake
set_option linter.unusedSimpArgs false
set_option linter.unusedVariables false
namespace Go.Proofs.YtjcmblbnbpikfaaGreatDoor
open Go.RowKit Go.PlainAid

def bitsL : List UInt8 := [98, 105, 116, 115]
structure SpO where
 e : Int
 li : Int
 co : Int
 fl : Int
 fc : Int
 x : Sp
 r : List Tk
def errO (t : Tk) (e : Int) : SpO := ⟨e, t.line, t.col, 0, 0, ⟨0, 0, 0⟩, []⟩
def noO : SpO := ⟨11, 0, 0, 0, 0, ⟨0, 0, 0⟩, []⟩
def endM (a : Tk) (tt m ml mc : Int) : List Tk → SpO
 | [] => noO
 | z :: r => if z.k = 4 then (if m < 1 ∨ 255 < m then ⟨10, ml, mc, 0, 0, ⟨0, 0, 0⟩, []⟩ else ⟨0, 0, 0, a.line, a.col, ⟨a.n, tt, m⟩, r⟩) else errO z 11
def maskM (a : Tk) (tt : Int) : List Tk → SpO
 | [] => noO
 | d :: r => if d.t = bitsL then (match r with | [] => noO | m :: r2 => if m.k = 2 then endM a tt m.n m.line m.col r2 else errO m 11) else endM a tt 255 0 0 (d :: r)
def spanM : List Tk → SpO
 | [] => noO
 | a :: r => if a.k = 2 then (match r with | [] => noO | b :: r2 => if b.k = 3 then (match r2 with | [] => noO | c :: r3 => if c.k = 2 then maskM a c.n r3 else errO c 11) else maskM a a.n (b :: r2)) else errO a 11
def Good (l : List Tk) : Prop := (∃ z ∈ l, z.k = 4) ∧ ∀ z ∈ l, z.k = 4 → z.t = []
theorem Good.cons {l : List Tk} (h : Good l) : ∃ x r, l = x :: r := by
 obtain ⟨⟨z, hz, _⟩, _⟩ := h
 cases l with
 | nil => cases hz
 | cons x r => exact ⟨x, r, rfl⟩
theorem Good.tail {x : Tk} {r : List Tk} (h : Good (x :: r)) (hx : x.k ≠ 4) : Good r := by
 obtain ⟨⟨z, hz, hk⟩, h2⟩ := h
 refine ⟨⟨z, ?_, hk⟩, fun y hy => h2 y (List.mem_cons_of_mem _ hy)⟩
 rcases List.mem_cons.1 hz with rfl | h
 ·exact absurd hk hx
 ·exact h
theorem Good.tail_bits {x : Tk} {r : List Tk} (h : Good (x :: r)) (hx : x.t = bitsL) : Good r := h.tail (fun e => by have := h.2 x List.mem_cons_self e; rw [hx] at this; cases this)
set_option maxRecDepth 100000 in
theorem wrong_c (rb S0 : Nat) (w : World) (s : St) (x : Tk) (r : List Tk) (hs : s.left = x :: r) (hr : Rd rb S0 w s) :
  Calls Tryz.prog 74 #[.pointer (some ⟨rb, 0, none⟩)] w fun e w' => e = .returned (.tuple #[.agg #[.int .i64 x.line, .int .i64 x.col], .int .i64 11]) ∧ w.grownBy w' (some rb) := by
 obtain ⟨v, a1, a2, a3⟩ := hr.left
 rw [hs] at a2
 rcases a2 with ⟨_, h⟩ | ⟨g, o, cap, rfl, hcap, hc⟩
 ·cases h
 have hgr : g < rb := a3 g rfl
 obtain ⟨t0, t1, t2, t3, t4⟩ := hc 0 x rfl
 rw [Nat.zero_mul, Nat.add_zero] at t0 t1 t2 t3 t4
 have hn : (x :: r).length = r.length + 1 := rfl
 rw [hn] at a1
 obtain ⟨n, hn⟩ : ∃ n, r.length + 1 = n := ⟨_, rfl⟩
 have hpos : (0 : Int) < (n : Int) := by omega
 have hpos2 : 0 < n := by omega
 rw [hn] at a1
 have hlt := hr.lt
 have hsz0 := hr.sz
 have hkr : rb < w.heap.size := by omega
 have hkg : g < w.heap.size := by omega
 have hgw : ¬ g = w.heap.size := by omega
 have hrw : ¬ rb = w.heap.size := by omega
 obtain ⟨xk, xt, xn, xl, xc⟩ := x
 dsimp only at t3 t4 ⊢
 clear hn hc hcap a3 hs hr t0 t1 t2
 go_enter Tryz.func74, Tryz.ntmps74
 go_wp2
 refine bodyPost_ret (v := .tuple #[.agg #[.int .i64 xl, .int .i64 xc], .int .i64 11]) (by simp [results, Tryz.results74, go_sem] <;> first | done | rfl) rfl ⟨rfl, grown_be (by go_grown) _⟩
def SpanEnd (rb S0 : Nat) (w : World) (s : St) (word : Tk) (sink : Bool) (o : SpO) : Ending → World → Prop := fun e w' =>
 (o.e ≠ 0 → e = .returned (.tuple #[.agg #[.int .i64 o.li, .int .i64 o.co], .int .i64 o.e]) ∧ Tur rb S0 s.v w w') ∧
 (o.e = 0 → addM ⟨o.x, sink⟩ s.sp = 0 → e = .returned (.tuple #[.agg #[.int .i64 0, .int .i64 0], .int .i64 0]) ∧ (∃ v', Rd rb S0 w' { s with left := o.r, sp := s.sp ++ [⟨o.x, sink⟩], v := v' } ∧ (v'.ownBlock = s.v.ownBlock ∨ ∃ g, v'.ownBlock = some g ∧ w.heap.size ≤ g)) ∧ Tur rb S0 s.v w w') ∧
 (o.e = 0 → addM ⟨o.x, sink⟩ s.sp ≠ 0 → e = .returned (.tuple #[.agg #[.int .i64 (if addM ⟨o.x, sink⟩ s.sp = 10 then o.fl else word.line), .int .i64 (if addM ⟨o.x, sink⟩ s.sp = 10 then o.fc else word.col)], .int .i64 (addM ⟨o.x, sink⟩ s.sp)]) ∧ Tur rb S0 s.v w w')
theorem Rd.al {rb S0 : Nat} {w : World} {s : St} (h : Rd rb S0 w s) (o : Obj) : Rd rb S0 (w.alloc o) s := h.on ((Below.refl _ w).alloc (Nat.le_refl _) o)
theorem Rd.setn {rb S0 : Nat} {w : World} {s : St} (h : Rd rb S0 w s) {p : Addr} (hr : rb < p.block) (hl : ∀ g, s.v.ownBlock = some g → g ≠ p.block) (v : Value) : Rd rb S0 (w.setCell p v) s := by
 obtain ⟨x, a1, a2, a3⟩ := h.left
 obtain ⟨b1, b2⟩ := h.row
 have hk : ∀ o y, w.cell? ⟨rb, o, none⟩ = some y → (w.setCell p v).cell? ⟨rb, o, none⟩ = some y := fun o y hy => (World.cell?_of_block (Below.heap_setCell w p v rb (by omega))).trans hy
 refine ⟨⟨x, hk 0 x a1, ?_, a3⟩, ⟨hk 1 _ b1, ?_⟩, hk 2 _ h.c2, hk 3 _ h.c3, hk 4 _ h.c4, hk 5 _ h.c5, fun o ho => by rw [World.frozen?_setCell]; exact h.fr o ho, h.lt, by rw [World.size_setCell]; exact h.sz⟩
 ·rcases a2 with a2 | ⟨g, o, cap, e, hc, a2⟩
  ·exact .inl a2
  ·have hg := a3 g (by rw [e]; rfl)
   have hs : ∀ o y, w.cell? ⟨g, o, none⟩ = some y → (w.setCell p v).cell? ⟨g, o, none⟩ = some y := fun o y hy => (World.cell?_of_block (Below.heap_setCell w p v g (by omega))).trans hy
   exact .inr ⟨g, o, cap, e, hc, fun j x hx => by obtain ⟨c0, c1, c2, c3, c4⟩ := a2 j x hx; exact ⟨hs _ _ c0, hs _ _ c1, hs _ _ c2, hs _ _ c3, hs _ _ c4⟩⟩
 ·refine ⟨b2.1, ?_⟩
  rcases b2.2 with b3 | ⟨g, cap, cur, h1, h2, h3, r⟩
  ·exact .inl b3
  ·have hg := hl g (by rw [h1]; rfl)
   exact .inr ⟨g, cap, cur, h1, h2, (Below.heap_setCell w p v g (by omega)).trans h3, r⟩
theorem Rd.setl {rb S0 N : Nat} {w : World} {s : St} (h : Rd rb S0 w s) (hl : Hid (∀ g, s.v.ownBlock = some g → g < N)) (hr : rb < N) {p : Addr} (hp : N ≤ p.block) (v : Value) : Rd rb S0 (w.setCell p v) s :=
 h.setn (by omega) (fun g e => by have := hl.out g e; omega) v
theorem Rd.added {rb S0 : Nat} {w u : World} {s : St} {l : List Mk} (h : Rd rb S0 w s) (ha : Added w u rb 1 S0 l) : ∃ v', Rd rb S0 u { s with sp := l, v := v' } ∧ (v'.ownBlock = s.v.ownBlock ∨ ∃ g, v'.ownBlock = some g ∧ w.heap.size ≤ g) := by
 obtain ⟨x, a1, a2, a3⟩ := h.left
 obtain ⟨v', r1, r2⟩ := ha.row
 have hk : ∀ o, o ≠ 1 → u.cell? ⟨rb, o, none⟩ = w.cell? ⟨rb, o, none⟩ := ha.cells
 have hlt := h.lt
 refine ⟨v', ⟨⟨x, (hk 0 (by omega)).trans a1, ?_, a3⟩, ⟨r1, r2⟩, (hk 2 (by omega)).trans h.c2, (hk 3 (by omega)).trans h.c3, (hk 4 (by omega)).trans h.c4, (hk 5 (by omega)).trans h.c5, fun o ho => (ha.frozen o).trans (h.fr o ho), h.lt, Nat.le_trans h.sz ha.below.size⟩, ha.fresh _ _ h.row.1 r1⟩
 rcases a2 with a2 | ⟨g, o, cap, e, hc, a2⟩
 ·exact .inl a2
 ·have hg := a3 g (by rw [e]; rfl)
  have hs : ∀ o y, w.cell? ⟨g, o, none⟩ = some y → u.cell? ⟨g, o, none⟩ = some y := fun o y hy => ha.kc (by omega) (by omega) hy
  exact .inr ⟨g, o, cap, e, hc, fun j x hx => by obtain ⟨c0, c1, c2, c3, c4⟩ := a2 j x hx; exact ⟨hs _ _ c0, hs _ _ c1, hs _ _ c2, hs _ _ c3, hs _ _ c4⟩⟩
theorem Tur.added {rb S0 ro : Nat} {w u : World} {l : List Mk} {v : Value} (ha : Added w u rb ro S0 l) (hv : w.cell? ⟨rb, ro, none⟩ = some v) : Tur rb S0 v w u := ⟨ha.below, ha.keep, fun b h1 h2 h3 => ha.keep2 b h1 h2 (fun v' h => by rw [hv] at h; cases h; exact h3)⟩
theorem Added.own {w u : World} {rb ro S0 N : Nat} {l : List Mk} {v : Value} (ha : Added w u rb ro S0 l) (hv : w.cell? ⟨rb, ro, none⟩ = some v) (hl : Hid (∀ g, v.ownBlock = some g → g < N)) {b : Nat} (hb : N ≤ b) (hr : rb < N) (hlt : b < w.heap.size) : u.heap[b]? = w.heap[b]? :=
 ha.keep2 b hlt (by omega) (fun v' h e => by
  rw [hv] at h
  cases h
  have := hl.out b e.symm
  omega)
theorem spanEnd_err {rb S0 : Nat} {w w' : World} {s : St} {word : Tk} {sink : Bool} {o : SpO} {E L C : Int} (h1 : o.e = E) (h2 : o.li = L) (h3 : o.co = C) (hE : E ≠ 0) (ht : Tur rb S0 s.v w w') : SpanEnd rb S0 w s word sink o (.returned (.tuple #[.agg #[.int .i64 L, .int .i64 C], .int .i64 E])) w' := by
 subst h1; subst h2; subst h3
 exact ⟨fun _ => ⟨rfl, ht⟩, fun h => absurd h hE, fun h => absurd h hE⟩
theorem Tur.setn {rb S0 : Nat} {y : Value} {w u : World} (h : Tur rb S0 y w u) {p : Addr} (h1 : rb < S0) (h2 : S0 ≤ w.heap.size) (hp : w.heap.size ≤ p.block) (v : Value) : Tur rb S0 y w (u.setCell p v) :=
 ⟨h.below.setCell (by omega) v, fun b hb hne => (Below.heap_setCell u p v b (by omega)).trans (h.keep b hb hne), fun b hb hne hn => (Below.heap_setCell u p v b (by omega)).trans (h.keep2 b hb hne hn)⟩
theorem spanEnd_ok {rb S0 : Nat} {w w' : World} {s : St} {word : Tk} {sink : Bool} {o : SpO} {X : Sp} {rs : List Tk} (h1 : o.e = 0) (h2 : o.x = X) (h3 : o.r = rs) (hA : addM ⟨X, sink⟩ s.sp = 0) (hR : ∃ v', Rd rb S0 w' { s with left := rs, sp := s.sp ++ [⟨X, sink⟩], v := v' } ∧ (v'.ownBlock = s.v.ownBlock ∨ ∃ g, v'.ownBlock = some g ∧ w.heap.size ≤ g)) (ht : Tur rb S0 s.v w w') :
  SpanEnd rb S0 w s word sink o (.returned (.tuple #[.agg #[.int .i64 0, .int .i64 0], .int .i64 0])) w' := by
 subst h2; subst h3
 exact ⟨fun h => absurd h1 h, fun _ _ => ⟨rfl, hR, ht⟩, fun _ h => absurd hA h⟩
theorem spanEnd_no {rb S0 : Nat} {w w' : World} {s : St} {word : Tk} {sink : Bool} {o : SpO} {X : Sp} {A L C : Int} (h1 : o.e = 0) (h2 : o.x = X) (hA : addM ⟨X, sink⟩ s.sp = A) (hA0 : A ≠ 0) (hL : L = if A = 10 then o.fl else word.line) (hC : C = if A = 10 then o.fc else word.col) (ht : Tur rb S0 s.v w w') :
  SpanEnd rb S0 w s word sink o (.returned (.tuple #[.agg #[.int .i64 L, .int .i64 C], .int .i64 A])) w' := by
 subst h2; subst hA; subst hL; subst hC
 exact ⟨fun h => absurd h1 h, fun _ h => absurd h hA0, fun _ _ => ⟨rfl, ht⟩⟩
end Go.Proofs.YtjcmblbnbpikfaaGreatDoor
