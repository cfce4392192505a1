/-
  The program's bus: where its parts lie, and what calls leave of them.
  The program's wheel: Way, Clone, Same.
  The program's bus: what it hands out.
-/
import Derived.Test.YtcnejgilmciljaaDoorBs13
import Derived.Test.YtcnejgilmciljaaDoorBusK13
import Derived.Test.YtcnejgilmciljaaDoorMem8
import Derived.Test.YtcnejgilmciljaaDoorAfterp10
import Derived.Test.YtcnejgilmciljaaDoorPlanX
import Derived.Test.YtcnejgilmciljaaDoorBits10
import Derived.Test.YtcnejgilmciljaaDoorEqual11
set_option linter.unusedSimpArgs false
set_option linter.unusedVariables false
namespace Go.Proofs.YtcnejgilmciljaaDoor
open Go.RowKit Go.PlainAid

/-- The blocks of its parts lie apart. -/
structure Sep (bb mb mbb wb : Nat) (G : Nat → Prop) : Prop where
  bm : bb ≠ mb
  bx : bb ≠ mbb
  bw : bb ≠ wb
  bg : ¬ G bb
  mw : mb ≠ wb
  mg : ¬ G mb
  xw : mbb ≠ wb
  xg : ¬ G mbb
  wg : ¬ G wb
structure Pb (bb mb mbb pb wb : Nat) (B : Bs) (F G : Nat → Prop) (w : World) : Prop where
  c0 : w.cell? ⟨bb, 0, none⟩ = some (.pointer (some ⟨mb, 0, none⟩))
  t : Tw bb 1 B.T w
  c7 : w.cell? ⟨bb, 7, none⟩ = some (.pointer (some ⟨pb, 0, none⟩))
  c8 : w.cell? ⟨bb, 8, none⟩ = some (.pointer (some ⟨wb, 0, none⟩))
  c9 : w.cell? ⟨bb, 9, none⟩ = some (.int .i64 B.n)
  f9 : w.frozen? ⟨bb, 9, none⟩ = false
  m : Pm mb mbb w B.M
  p : PO pb B.S F G w
  h : Pw wb B.W w
  s : Sep bb mb mbb wb G
/-- As much of it as a call reads that turns nothing. -/
structure Pv (bb mb mbb pb wb : Nat) (B : Bs) (F G : Nat → Prop) (w : World) : Prop where
  c0 : w.cell? ⟨bb, 0, none⟩ = some (.pointer (some ⟨mb, 0, none⟩))
  t : Tw bb 1 B.T w
  c7 : w.cell? ⟨bb, 7, none⟩ = some (.pointer (some ⟨pb, 0, none⟩))
  c8 : w.cell? ⟨bb, 8, none⟩ = some (.pointer (some ⟨wb, 0, none⟩))
  c9 : w.cell? ⟨bb, 9, none⟩ = some (.int .i64 B.n)
  m : Pm mb mbb w B.M
  p : PO pb B.S F G w
  h : Pw wb B.W w
theorem Pb.v {bb mb mbb pb wb : Nat} {B : Bs} {F G : Nat → Prop} {w : World} (h : Pb bb mb mbb pb wb B F G w) : Pv bb mb mbb pb wb B F G w := ⟨h.c0, h.t, h.c7, h.c8, h.c9, h.m, h.p, h.h⟩
theorem Pv.below {bb mb mbb pb wb : Nat} {B : Bs} {F G : Nat → Prop} {w u : World} (h : Pv bb mb mbb pb wb B F G w) (hb : Below w.heap.size w u) : Pv bb mb mbb pb wb B F G u :=
  ⟨kc hb h.c0, h.t.below hb, kc hb h.c7, kc hb h.c8, kc hb h.c9, h.m.below hb, (PO.frm _ _).below h.p hb, h.h.below hb⟩
def footP (bb mbb wb : Nat) (F : Nat → Prop) (k : Nat) : Prop := k = bb ∨ k = mbb ∨ k = wb ∨ F k
def hangP (bb mb mbb wb : Nat) (G : Nat → Prop) (k : Nat) : Prop := k = bb ∨ k = mb ∨ k = mbb ∨ k = wb ∨ G k
def BO (bb : Nat) (B : Bs) : Thing := fun F G w => ∃ mb mbb pb wb F0 G0, Pb bb mb mbb pb wb B F0 G0 w ∧ F = footP bb mbb wb F0 ∧ G = hangP bb mb mbb wb G0
section
variable {bb mb mbb pb wb : Nat} {B B' : Bs} {F G F' G' : Nat → Prop} {w u v : World}
theorem Pb.fr {H : Nat → Prop} (h : Pb bb mb mbb pb wb B F G w) (hf : Fr H w u) (hn : ∀ k, hangP bb mb mbb wb G k → ¬ H k) : Pb bb mb mbb pb wb B F G u := by
  have n0 : ¬ H bb := hn _ (.inl rfl)
  exact ⟨hf.cell h.c0 n0, h.t.fr hf n0, hf.cell h.c7 n0, hf.cell h.c8 n0, hf.cell h.c9 n0, hf.frozen (klt h.c9) h.f9 n0,
    h.m.keep (hf.keep mb (klt h.m.c0) (hn _ (.inr (.inl rfl)))) (hf.keep mbb h.m.lt (hn _ (.inr (.inr (.inl rfl))))),
    (PO.frm _ _).fr h.p hf (fun k hk => hn _ (.inr (.inr (.inr (.inr hk))))), h.h.fr hf (hn _ (.inr (.inr (.inr (.inl rfl))))), h.s⟩
theorem Pb.below (h : Pb bb mb mbb pb wb B F G w) (hb : Below w.heap.size w u) : Pb bb mb mbb pb wb B F G u := h.fr (Fr.ofBelow (F := fun _ => False) hb) (fun _ _ f => f)
theorem Pb.lt (h : Pb bb mb mbb pb wb B F G w) : ∀ k, hangP bb mb mbb wb G k → k < w.heap.size := by
  rintro k (rfl | rfl | rfl | rfl | hk)
  · exact klt h.c0
  · exact klt h.m.c0
  · exact h.m.lt
  · exact h.h.lt
  · exact (PO.frm _ _).lt h.p k hk
theorem BO.frm (bb : Nat) (B : Bs) : Frm (BO bb B) := by
  refine ⟨?_, ?_, ?_⟩
  · rintro F G H w u ⟨mb, mbb, pb, wb, F0, G0, h, rfl, rfl⟩ hf hn
    exact ⟨mb, mbb, pb, wb, F0, G0, h.fr hf hn, rfl, rfl⟩
  · rintro F G w ⟨mb, mbb, pb, wb, F0, G0, h, rfl, rfl⟩ k (rfl | rfl | rfl | hk)
    · exact .inl rfl
    · exact .inr (.inr (.inl rfl))
    · exact .inr (.inr (.inr (.inl rfl)))
    · exact .inr (.inr (.inr (.inr ((PO.frm _ _).sub h.p k hk))))
  · rintro F G w ⟨mb, mbb, pb, wb, F0, G0, h, rfl, rfl⟩ k hk
    exact h.lt k hk
/-- What a call has left so far: it wrote the parts' blocks alone. -/
structure Bg (bb mb mbb pb wb : Nat) (F G : Nat → Prop) (w : World) (B' : Bs) (F' G' : Nat → Prop) (u : World) : Prop where
  b : Pb bb mb mbb pb wb B' F' G' u
  fr : Fr (footP bb mbb wb F) w u
  f : ∀ k, F' k → F k ∨ w.heap.size ≤ k
  g : ∀ k, G' k → G k ∨ w.heap.size ≤ k
theorem Bg.refl (h : Pb bb mb mbb pb wb B F G w) : Bg bb mb mbb pb wb F G w B F G w := ⟨h, Fr.refl _ _, fun _ h => .inl h, fun _ h => .inl h⟩
theorem Bg.below (h : Bg bb mb mbb pb wb F G w B' F' G' u) (hb : Below u.heap.size u v) : Bg bb mb mbb pb wb F G w B' F' G' v :=
  ⟨h.b.below hb, h.fr.trans (G := fun _ => False) (Fr.ofBelow hb) (fun _ _ f => f.elim), h.f, h.g⟩
theorem Bg.trans {B2 : Bs} {F2 G2 : Nat → Prop} (h : Bg bb mb mbb pb wb F G w B' F' G' u) (k : Bg bb mb mbb pb wb F' G' u B2 F2 G2 v) : Bg bb mb mbb pb wb F G w B2 F2 G2 v := by
  have hz := h.fr.size
  refine ⟨k.b, h.fr.trans k.fr ?_, fun j hj => ?_, fun j hj => ?_⟩
  · rintro j hj (e | e | e | e)
    · exact .inl e
    · exact .inr (.inl e)
    · exact .inr (.inr (.inl e))
    · exact (h.f j e).elim (fun h1 => .inr (.inr (.inr h1))) (fun h1 => by omega)
  · exact (k.f j hj).elim (h.f j) (fun h1 => .inr (by omega))
  · exact (k.g j hj).elim (h.g j) (fun h1 => .inr (by omega))
theorem Bg.put {nb : Nat} (h : Bg bb mb mbb pb wb F G w B' F' G' u) (hf : Fr (fun k => k = nb) u v) (hn : w.heap.size ≤ nb) (hg : ¬ hangP bb mb mbb wb G' nb) : Bg bb mb mbb pb wb F G w B' F' G' v :=
  ⟨h.b.fr hf (fun k hk e => hg (e ▸ hk)), h.fr.trans hf (fun b hb e => by omega), h.f, h.g⟩
theorem Pb.new {nb : Nat} (h : Pb bb mb mbb pb wb B F G w) (hn : w.heap.size ≤ nb) : ¬ hangP bb mb mbb wb G nb := fun e => by have := h.lt _ e; omega
/-- A block that came ahead of a call is none of the parts'. -/
theorem Pb.newG {nb : Nat} (h : Pb bb mb mbb pb wb B F G w) (hn : w.heap.size ≤ nb) (hg : ∀ k, G' k → G k ∨ nb < k) : ¬ hangP bb mb mbb wb G' nb := fun e => by
  have l := h.lt
  rcases e with e | e | e | e | e
  · have := l nb (.inl e); omega
  · have := l nb (.inr (.inl e)); omega
  · have := l nb (.inr (.inr (.inl e))); omega
  · have := l nb (.inr (.inr (.inr (.inl e)))); omega
  · rcases hg nb e with h1 | h1
    · have := l nb (.inr (.inr (.inr (.inr h1)))); omega
    · omega
theorem Bg.end_ {V : Value} (h : Bg bb mb mbb pb wb F G w B' F' G' u) : TEnd (BO bb B') (footP bb mbb wb F) (hangP bb mb mbb wb G) V w (.returned V) u := by
  refine ⟨rfl, _, _, ⟨mb, mbb, pb, wb, F', G', h.b, rfl, rfl⟩, h.fr, ?_, ?_⟩
  · rintro k (e | e | e | e)
    · exact .inl (.inl e)
    · exact .inl (.inr (.inl e))
    · exact .inl (.inr (.inr (.inl e)))
    · exact (h.f k e).imp (fun h1 => .inr (.inr (.inr h1))) id
  · rintro k (e | e | e | e | e)
    · exact .inl (.inl e)
    · exact .inl (.inr (.inl e))
    · exact .inl (.inr (.inr (.inl e)))
    · exact .inl (.inr (.inr (.inr (.inl e))))
    · exact (h.g k e).imp (fun h1 => .inr (.inr (.inr (.inr h1)))) id
/-- Of what stood there the bus's own block alone was written, its pointers were not. -/
structure Own (bb : Nat) (w u : World) : Prop where
  fr : Fr (fun k => k = bb) w u
  at_ : ∀ j, j = 0 ∨ j = 7 ∨ j = 8 → u.cell? ⟨bb, j, none⟩ = w.cell? ⟨bb, j, none⟩
theorem Own.trans (h : Own bb w u) (k : Own bb u v) : Own bb w v := ⟨h.fr.trans k.fr (fun _ _ e => e), fun j hj => (k.at_ j hj).trans (h.at_ j hj)⟩
theorem Own.below (h : Own bb w u) (hlt : bb < w.heap.size) (hb : Below u.heap.size u v) : Own bb w v :=
  ⟨h.fr.trans (G := fun _ => False) (Fr.ofBelow hb) (fun _ _ f => f.elim), fun j hj => (hb.cell (p := ⟨bb, j, none⟩) (Nat.lt_of_lt_of_le hlt h.fr.size)).trans (h.at_ j hj)⟩
theorem Own.ofTq {T : Tm} (h : Tq bb 1 w T u) : Own bb w u :=
  ⟨Fr.ofGrown h.g (fun b _ e => (Option.some.inj e).symm), fun j hj => (h.ot j (by omega)).1⟩
theorem Own.set (h : Own bb w u) (x : Value) : Own bb w (u.setCell ⟨bb, 9, none⟩ x) :=
  ⟨h.fr.setCell _ _ (fun _ => rfl), fun j hj => by
    rw [World.cell?_setCell_other _ _ _ _ (fun e => by have := congrArg Addr.off e; dsimp only at this; omega)]
    exact h.at_ j hj⟩
theorem Pb.own {T : Tm} {n : Int} (h : Pb bb mb mbb pb wb B F G w) (ho : Own bb w u) (ht : Tw bb 1 T u) (hc : u.cell? ⟨bb, 9, none⟩ = some (.int .i64 n)) (hf : u.frozen? ⟨bb, 9, none⟩ = false) :
    Bg bb mb mbb pb wb F G w ⟨B.M, T, B.S, B.W, n⟩ F G u := by
  have s := h.s
  refine ⟨⟨(ho.at_ 0 (by omega)).trans h.c0, ht, (ho.at_ 7 (by omega)).trans h.c7, (ho.at_ 8 (by omega)).trans h.c8, hc, hf, ?_, ?_, ?_, s⟩, ho.fr.mono (fun b _ e => .inl e), fun _ h => .inl h, fun _ h => .inl h⟩
  · exact h.m.keep (ho.fr.keep mb (klt h.m.c0) (fun e => s.bm e.symm)) (ho.fr.keep mbb h.m.lt (fun e => s.bx e.symm))
  · exact (PO.frm _ _).fr h.p ho.fr (fun k hk e => s.bg (e ▸ hk))
  · exact h.h.fr ho.fr (fun e => s.bw e.symm)
theorem Pb.mem {M : Int → Int × Int} (h : Pb bb mb mbb pb wb B F G w) (hg : w.grownBy u (some mbb)) (hm : Pm mb mbb u M) : Bg bb mb mbb pb wb F G w ⟨M, B.T, B.S, B.W, B.n⟩ F G u := by
  have s := h.s
  have hf : Fr (fun k => k = mbb) w u := Fr.ofGrown hg (fun b _ e => (Option.some.inj e).symm)
  have n0 : ¬ bb = mbb := s.bx
  exact ⟨⟨hf.cell h.c0 n0, h.t.fr hf n0, hf.cell h.c7 n0, hf.cell h.c8 n0, hf.cell h.c9 n0, hf.frozen (klt h.c9) h.f9 n0, hm, (PO.frm _ _).fr h.p hf (fun k hk e => s.xg (e ▸ hk)), h.h.fr hf (fun e => s.xw e.symm), s⟩,
    hf.mono (fun b _ e => .inr (.inl e)), fun _ h => .inl h, fun _ h => .inl h⟩
theorem Pb.wheel {W : Wh} (h : Pb bb mb mbb pb wb B F G w) (hf : Fr (fun k => k = wb) w u) (hw : Pw wb W u) : Bg bb mb mbb pb wb F G w ⟨B.M, B.T, B.S, W, B.n⟩ F G u := by
  have s := h.s
  have n0 : ¬ bb = wb := s.bw
  exact ⟨⟨hf.cell h.c0 n0, h.t.fr hf n0, hf.cell h.c7 n0, hf.cell h.c8 n0, hf.cell h.c9 n0, hf.frozen (klt h.c9) h.f9 n0, h.m.keep (hf.keep mb (klt h.m.c0) s.mw) (hf.keep mbb h.m.lt s.xw), (PO.frm _ _).fr h.p hf (fun k hk e => s.wg (e ▸ hk)), hw, s⟩,
    hf.mono (fun b _ e => .inr (.inr (.inl e))), fun _ h => .inl h, fun _ h => .inl h⟩
theorem Pb.ports {S : Po} (h : Pb bb mb mbb pb wb B F G w) (hM : Mv F G F' G' w u) (hp : PO pb S F' G' u) : Bg bb mb mbb pb wb F G w ⟨B.M, B.T, S, B.W, B.n⟩ F' G' u := by
  have s := h.s
  have hf := hM.fr
  have sub := (PO.frm _ _).sub h.p
  have n0 : ¬ F bb := fun e => s.bg (sub _ e)
  have nw : ∀ k, hangP bb mb mbb wb G k → ¬ G k → ¬ G' k := fun k hk hn hk' => (hM.g k hk').elim hn (fun h1 => by have := h.lt k hk; omega)
  exact ⟨⟨hf.cell h.c0 n0, h.t.fr hf n0, hf.cell h.c7 n0, hf.cell h.c8 n0, hf.cell h.c9 n0, hf.frozen (klt h.c9) h.f9 n0, h.m.keep (hf.keep mb (klt h.m.c0) (fun e => s.mg (sub _ e))) (hf.keep mbb h.m.lt (fun e => s.xg (sub _ e))), hp, h.h.fr hf (fun e => s.wg (sub _ e)),
      ⟨s.bm, s.bx, s.bw, nw _ (.inl rfl) s.bg, s.mw, nw _ (.inr (.inl rfl)) s.mg, s.xw, nw _ (.inr (.inr (.inl rfl))) s.xg, nw _ (.inr (.inr (.inr (.inl rfl)))) s.wg⟩⟩,
    hf.mono (fun b _ e => .inr (.inr (.inr e))), hM.f, hM.g⟩
end
end Go.Proofs.YtcnejgilmciljaaDoor
set_option linter.unusedSimpArgs false
set_option linter.unusedVariables false
namespace Go.Proofs.YtcnejgilmciljaaDoor
open Go.RowKit Go.PlainAid

set_option maxRecDepth 100000 in
theorem wclone_nil (w : World) : Calls Tryd.prog 31 #[.pointer none] w fun e w' => e = .returned (.pointer none) ∧ Below w.heap.size w w' := by
  go_enter Tryd.func31, Tryd.ntmps31
  go_wp2
  go_ret
  exact ⟨rfl, by go_grown⟩
set_option maxRecDepth 100000 in
theorem wclone_c (wb : Nat) (R : Wh) (w : World) (h : Pw wb R w) : Calls Tryd.prog 31 #[.pointer (some ⟨wb, 0, none⟩)] w fun e w' => ∃ cb, e = .returned (.pointer (some ⟨cb, 0, none⟩)) ∧ Pw cb R w' ∧ w.heap.size ≤ cb ∧ Below w.heap.size w w' := by
  obtain ⟨c0, c1, c2, -⟩ := h
  have hlt := klt c0
  have hst := store_cplx Tryd.prog
  have H : ∀ cb w', w'.cell? ⟨cb, 0, none⟩ = some (cV R.x R.y) → w'.cell? ⟨cb, 1, none⟩ = some (cV (waysX R.q) (waysY R.q)) → w'.cell? ⟨cb, 2, none⟩ = some (.int .u8 R.b) → (∀ i, i < 3 → w'.frozen? ⟨cb, i, none⟩ = false) → Pw cb R w' := fun cb w' a b c d => ⟨a, b, c, d⟩
  have H := Lib.hid H
  unfold cV at *
  generalize zF R.x = X at *
  generalize zF R.y = Y at *
  generalize zF (waysX R.q) = A at *
  generalize zF (waysY R.q) = B at *
  go_enter Tryd.func31, Tryd.ntmps31
  go_wp2
  go_ret
  refine ⟨_, rfl, H.out _ _ (by go_simp; first | done | rfl) (by go_simp; first | done | rfl) (by go_simp; first | done | rfl) (fun i hi => by go_simp), by simp, by go_grown⟩
def sameW (R T : Wh) : Bool := decide (R.x = T.x) && decide (R.y = T.y) && decide (R.q = T.q) && decide (R.b = T.b)
theorem ways_inj {p q : Int} (hp : 0 ≤ p ∧ p ≤ 3) (hq : 0 ≤ q ∧ q ≤ 3) : (decide (waysX p = waysX q) && decide (waysY p = waysY q)) = decide (p = q) := by
  rcases way_cases hp with rfl | rfl | rfl | rfl <;> rcases way_cases hq with rfl | rfl | rfl | rfl <;> decide
theorem small_ways (q : Int) : (waysX q).natAbs < 2 ^ 53 ∧ (waysY q).natAbs < 2 ^ 53 := by
  rcases waysX_of q with h | h | h <;> rcases waysY_of q with h2 | h2 | h2 <;> rw [h, h2] <;> decide
set_option maxRecDepth 100000 in
set_option maxHeartbeats 1000000 in
theorem wsame_c (vb wb : Nat) (R T : Wh) (hR : R.May) (hT : T.May) (w : World) (h : Pw vb R w) (h' : Pw wb T w) :
    Calls Tryd.prog 32 #[.pointer (some ⟨vb, 0, none⟩), .pointer (some ⟨wb, 0, none⟩)] w fun e w' => e = .returned (.bool (sameW R T)) ∧ Below w.heap.size w w' := by
  have e1 := zF_eq (m := R.x) (n := T.x) (by have := hR.x; rw [p53]; omega) (by have := hT.x; rw [p53]; omega)
  have e2 := zF_eq (m := R.y) (n := T.y) (by have := hR.y; rw [p53]; omega) (by have := hT.y; rw [p53]; omega)
  have e3 := zF_eq (small_ways R.q).1 (small_ways T.q).1
  have e4 := zF_eq (small_ways R.q).2 (small_ways T.q).2
  have e5 : (R.b == T.b) = decide (R.b = T.b) := rfl
  have HQ := Lib.hid (ways_inj hR.q hT.q)
  unfold sameW
  rw [← HQ.out]
  obtain ⟨c0, c1, c2, -⟩ := h
  obtain ⟨d0, d1, d2, -⟩ := h'
  have hl1 := klt c0
  have hl2 := klt d0
  unfold cV at *
  generalize zF R.x = X at *
  generalize zF R.y = Y at *
  generalize zF (waysX R.q) = A at *
  generalize zF (waysY R.q) = B at *
  generalize zF T.x = X' at *
  generalize zF T.y = Y' at *
  generalize zF (waysX T.q) = A' at *
  generalize zF (waysY T.q) = B' at *
  generalize decide (R.x = T.x) = D1 at *
  generalize decide (R.y = T.y) = D2 at *
  generalize decide (waysX R.q = waysX T.q) = D3 at *
  generalize decide (waysY R.q = waysY T.q) = D4 at *
  generalize decide (R.b = T.b) = D5 at *
  clear hR hT HQ
  have hp_0 := c0
  have hp_1 := c1
  have hp_2 := c2
  have hq_0 := d0
  have hq_1 := d1
  have hq_2 := d2
  have hB : Below w.heap.size w w := Below.refl _ _
  clear c0 c1 c2 d0 d1 d2
  have hcase : D1 = false ∨ (D1 = true ∧ D2 = false) ∨ (D1 = true ∧ D2 = true ∧ D3 = false) ∨ (D1 = true ∧ D2 = true ∧ D3 = true ∧ D4 = false) ∨ (D1 = true ∧ D2 = true ∧ D3 = true ∧ D4 = true) := by
    cases D1 <;> cases D2 <;> cases D3 <;> cases D4 <;> simp
  rcases hcase with rfl | ⟨rfl, rfl⟩ | ⟨rfl, rfl, rfl⟩ | ⟨rfl, rfl, rfl, rfl⟩ | ⟨rfl, rfl, rfl, rfl⟩
  all_goals
    (try simp only [Bool.false_and, Bool.true_and, Bool.and_false])
    go_enter Tryd.func32, Tryd.ntmps32
    go_wp2_with fail
    refine wp_region_plan (fun w' => w'.cell? ⟨vb, 0, none⟩ = some (.complex .f64 X Y) ∧ w'.cell? ⟨vb, 1, none⟩ = some (.complex .f64 A B) ∧ w'.cell? ⟨vb, 2, none⟩ = some (.int .u8 R.b) ∧ w'.cell? ⟨wb, 0, none⟩ = some (.complex .f64 X' Y') ∧ w'.cell? ⟨wb, 1, none⟩ = some (.complex .f64 A' B') ∧ w'.cell? ⟨wb, 2, none⟩ = some (.int .u8 T.b) ∧ Below w.heap.size w w') (by kernel_rfl) (by kernel_rfl) (by kernel_rfl) ?_ ?_
    · (try dsimp only)
      refine ⟨?_, ?_, ?_, ?_, ?_, ?_, ?_⟩ <;> first | (go_simp; done) | (simp [*]; done) | go_grown
    repeat (first
      | (refine Plan.val (v := ?_) ?_ ?_ ?_; rotate_left; (· rfl); (· (intro W hSw; (try dsimp only at hSw); go_simp; all_goals (first | (with_reducible rfl) | (constructor <;> (with_reducible rfl)) | (rw [if_neg (by omega)]; done) | (rw [if_neg (by omega)]; with_reducible rfl)))); (try simp only [Act.put, List.setIfInBounds_toArray, List.set_cons_zero, List.set_cons_succ]))
      | (refine Plan.no ?_ ?_; (· rfl); (try simp only [Act.put, List.setIfInBounds_toArray, List.set_cons_zero, List.set_cons_succ])))
    refine Plan.done ?_
    intro wz T
    (try dsimp only at T)
    have hBe := T.2.2.2.2.2.2
    go_wp2
    go_ret
    exact ⟨by first | rfl | (simp; done), by go_grown⟩
end Go.Proofs.YtcnejgilmciljaaDoor
set_option linter.unusedSimpArgs false
set_option linter.unusedVariables false
namespace Go.Proofs.YtcnejgilmciljaaDoor
open Go.RowKit Go.PlainAid

section
variable {bb mb mbb pb wb : Nat} {B : Bs} {F G : Nat → Prop} {w : World}
set_option maxRecDepth 100000 in
theorem bcycles_c (h : Pv bb mb mbb pb wb B F G w) : Calls Tryd.prog 12 #[.pointer (some ⟨bb, 0, none⟩)] w fun e w' => e = .returned (.int .i64 B.n) ∧ Below w.heap.size w w' := by
  have c9 := h.c9
  clear h
  go_enter Tryd.func12, Tryd.ntmps12
  go_wp2
  go_ret
  exact ⟨rfl, by go_grown⟩
set_option maxRecDepth 100000 in
theorem birq_c (h : Pv bb mb mbb pb wb B F G w) : Calls Tryd.prog 11 #[.pointer (some ⟨bb, 0, none⟩)] w fun e w' => e = .returned (.bool (B.T.g && B.T.s)) ∧ Below w.heap.size w w' := by
  have HI := Lib.hid (fun W (hW : Below w.heap.size w W) => irqp_c bb 1 B.T W (h.t.below hW))
  generalize (B.T.g && B.T.s) = R at *
  clear h
  go_enter Tryd.func11, Tryd.ntmps11
  go_wp2_with fail
  refine (HI.out _ (by go_grown)).mono ?_
  rintro _ u ⟨rfl, hb⟩
  have HB := Lib.hid hb
  clear hb
  go_wp2
  go_ret
  exact ⟨rfl, HB.out⟩
set_option maxRecDepth 100000 in
theorem btimer_c (h : Pv bb mb mbb pb wb B F G w) : Calls Tryd.prog 14 #[.pointer (some ⟨bb, 0, none⟩)] w fun e w' => e = .returned (tmVal B.T) ∧ Below w.heap.size w w' := by
  obtain ⟨t0, t1, t2, t3, t4, t5⟩ := h.t.cells
  have hlt := klt h.c0
  clear h
  unfold tmVal
  go_enter Tryd.func14, Tryd.ntmps14
  go_wp2
  refine bodyPost_ret (v := .agg #[.int .i64 B.T.l, .int .i64 B.T.c, .bool B.T.r, .bool B.T.a, .bool B.T.s, .bool B.T.g]) (by simp [results, Tryd.results14, go_sem] <;> first | done | rfl | exact dec_eq Iff.rfl) rfl ⟨rfl, by go_grown⟩
set_option maxRecDepth 100000 in
theorem bmemory_c (h : Pv bb mb mbb pb wb B F G w) : Calls Tryd.prog 13 #[.pointer (some ⟨bb, 0, none⟩)] w fun e w' => ∃ mb mbb, e = .returned (.pointer (some ⟨mb, 0, none⟩)) ∧ Pm mb mbb w' B.M ∧ w.heap.size ≤ mb ∧ w.heap.size ≤ mbb ∧ Below w.heap.size w w' := by
  have HM := Lib.hid (fun W (hW : Below w.heap.size w W) => clonep_c B.M mb mbb W (h.m.below hW))
  have c0 := h.c0
  clear h
  unfold NewEnd at HM
  go_enter Tryd.func13, Tryd.ntmps13
  go_wp2_with fail
  refine (HM.out _ (by go_grown)).mono ?_
  rintro _ u ⟨rfl, hb, hp⟩
  have HE := Lib.hid (And.intro hb hp)
  clear hb hp
  go_wp2
  go_ret
  exact ⟨_, _, rfl, HE.out.2, by omega, Nat.le_refl _, HE.out.1⟩
set_option maxRecDepth 100000 in
theorem bports_c (h : Pv bb mb mbb pb wb B F G w) (hS : Fit B.S) : Calls Tryd.prog 15 #[.pointer (some ⟨bb, 0, none⟩)] w (NewT (fun b => PO b B.S) (fun v => v) w) := by
  have HM := Lib.hid (fun W (hW : Below w.heap.size w W) => pclone_c pb B.S hS F G W (h.below hW).p)
  have c7 := h.c7
  clear h
  unfold NewEndP at HM
  go_enter Tryd.func15, Tryd.ntmps15
  go_wp2_with fail
  refine (HM.out _ (by go_grown)).mono ?_
  rintro _ u ⟨qb, F', G', rfl, hp, hg, hl, hb⟩
  have HE := Lib.hid (And.intro hp (And.intro hg (And.intro hl hb)))
  clear hp hg hl hb
  go_wp2
  go_ret
  exact ⟨_, _, _, rfl, HE.out⟩
set_option maxRecDepth 100000 in
theorem bwheel_c (h : Pv bb mb mbb pb wb B F G w) : Calls Tryd.prog 16 #[.pointer (some ⟨bb, 0, none⟩)] w fun e w' => ∃ wb, e = .returned (.pointer (some ⟨wb, 0, none⟩)) ∧ Pw wb B.W w' ∧ w.heap.size ≤ wb ∧ Below w.heap.size w w' := by
  have HM := Lib.hid (fun W (hW : Below w.heap.size w W) => wclone_c wb B.W W (h.h.below hW))
  have c8 := h.c8
  clear h
  go_enter Tryd.func16, Tryd.ntmps16
  go_wp2_with fail
  refine (HM.out _ (by go_grown)).mono ?_
  rintro _ u ⟨qb, rfl, hp, hl, hb⟩
  have HE := Lib.hid (And.intro hp (And.intro hl hb))
  clear hp hl hb
  go_wp2
  go_ret
  exact ⟨_, rfl, HE.out⟩
end
/-! A nil one. -/
set_option maxRecDepth 100000 in
theorem bread_nil (a : Int) (w : World) : Calls Tryd.prog 9 #[.pointer none, .int .i64 a] w fun e w' => e = .returned (rdBV (0, 0, 2)) ∧ Below w.heap.size w w' := by
  unfold rdBV
  go_enter Tryd.func9, Tryd.ntmps9
  go_wp2
  refine bodyPost_ret (v := .tuple #[.agg #[.int .u8 0, .int .u8 0], .int .i64 2]) (by simp [results, Tryd.results9, go_sem] <;> first | done | rfl | exact dec_eq Iff.rfl) rfl ⟨rfl, by go_grown⟩
set_option maxRecDepth 100000 in
theorem bwrite_nil (a v t : Int) (w : World) : Calls Tryd.prog 10 #[.pointer none, .int .i64 a, .agg #[.int .u8 v, .int .u8 t]] w fun e w' => e = .returned (wrBV (0, 2)) ∧ Below w.heap.size w w' := by
  unfold wrBV
  go_enter Tryd.func10, Tryd.ntmps10
  go_wp2
  refine bodyPost_ret (v := .tuple #[.int .i64 0, .int .i64 2]) (by simp [results, Tryd.results10, go_sem] <;> first | done | rfl | exact dec_eq Iff.rfl) rfl ⟨rfl, by go_grown⟩
set_option maxRecDepth 100000 in
theorem birq_nil (w : World) : Calls Tryd.prog 11 #[.pointer none] w fun e w' => e = .returned (.bool false) ∧ Below w.heap.size w w' := by
  go_enter Tryd.func11, Tryd.ntmps11
  go_wp2
  go_ret
  exact ⟨rfl, by go_grown⟩
set_option maxRecDepth 100000 in
theorem bcycles_nil (w : World) : Calls Tryd.prog 12 #[.pointer none] w fun e w' => e = .returned (.int .i64 0) ∧ Below w.heap.size w w' := by
  go_enter Tryd.func12, Tryd.ntmps12
  go_wp2
  go_ret
  exact ⟨rfl, by go_grown⟩
set_option maxRecDepth 100000 in
theorem bmemory_nil (w : World) : Calls Tryd.prog 13 #[.pointer none] w fun e w' => e = .returned (.pointer none) ∧ Below w.heap.size w w' := by
  go_enter Tryd.func13, Tryd.ntmps13
  go_wp2
  go_ret
  exact ⟨rfl, by go_grown⟩
set_option maxRecDepth 100000 in
theorem btimer_nil (w : World) : Calls Tryd.prog 14 #[.pointer none] w fun e w' => e = .returned (tmVal ⟨0, 0, false, false, false, false⟩) ∧ Below w.heap.size w w' := by
  unfold tmVal
  go_enter Tryd.func14, Tryd.ntmps14
  go_wp2
  refine bodyPost_ret (v := .agg #[.int .i64 0, .int .i64 0, .bool false, .bool false, .bool false, .bool false]) (by simp [results, Tryd.results14, go_sem] <;> first | done | rfl | exact dec_eq Iff.rfl) rfl ⟨rfl, by go_grown⟩
set_option maxRecDepth 100000 in
theorem bports_nil (w : World) : Calls Tryd.prog 15 #[.pointer none] w fun e w' => e = .returned (.pointer none) ∧ Below w.heap.size w w' := by
  go_enter Tryd.func15, Tryd.ntmps15
  go_wp2
  go_ret
  exact ⟨rfl, by go_grown⟩
set_option maxRecDepth 100000 in
theorem bwheel_nil (w : World) : Calls Tryd.prog 16 #[.pointer none] w fun e w' => e = .returned (.pointer none) ∧ Below w.heap.size w w' := by
  go_enter Tryd.func16, Tryd.ntmps16
  go_wp2
  go_ret
  exact ⟨rfl, by go_grown⟩
set_option maxRecDepth 100000 in
theorem bclone_nil (w : World) : Calls Tryd.prog 17 #[.pointer none] w fun e w' => e = .returned (.pointer none) ∧ Below w.heap.size w w' := by
  go_enter Tryd.func17, Tryd.ntmps17
  go_wp2
  go_ret
  exact ⟨rfl, by go_grown⟩
set_option maxRecDepth 100000 in
theorem blow_nn (w : World) : Calls Tryd.prog 18 #[.pointer none, .pointer none] w fun e w' => e = .returned (.bool true) ∧ Below w.heap.size w w' := by
  go_enter Tryd.func18, Tryd.ntmps18
  go_wp2
  go_ret
  exact ⟨rfl, by go_grown⟩
set_option maxRecDepth 100000 in
theorem blow_np (p : Addr) (w : World) : Calls Tryd.prog 18 #[.pointer none, .pointer (some p)] w fun e w' => e = .returned (.bool false) ∧ Below w.heap.size w w' := by
  go_enter Tryd.func18, Tryd.ntmps18
  go_wp2
  go_ret
  exact ⟨rfl, by go_grown⟩
end Go.Proofs.YtcnejgilmciljaaDoor
