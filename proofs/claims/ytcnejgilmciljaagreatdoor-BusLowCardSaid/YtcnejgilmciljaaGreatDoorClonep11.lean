/-
  The program's bus: where its parts lie, and what calls leave of them.
  The program's timer: bits, Read.
  The program's Clone.
-/
import Derived.Test.YtcnejgilmciljaaGreatDoorEqArr
import Derived.Test.YtcnejgilmciljaaGreatDoorBusK13
import Derived.Test.YtcnejgilmciljaaGreatDoorLoadp8
import Derived.Test.YtcnejgilmciljaaGreatDoorProgw10
import Derived.Test.YtcnejgilmciljaaGreatDoorHeld
import Derived.Test.YtcnejgilmciljaaGreatDoorOutp11
import Derived.Test.YtcnejgilmciljaaGreatDoorPlanR
set_option linter.unusedSimpArgs false
set_option linter.unusedVariables false
namespace Go.Proofs.YtcnejgilmciljaaGreatDoor
open Go.RowKit Go.PlainAid

/-- The blocks of its parts lie apart. -/
structure Sep (bb mb mbb wb : Nat) (G : Nat → Prop) : Prop where
  bm : bb ≠ mb
  bx : bb ≠ mbb
  bw : bb ≠ wb
  bg : ¬ G bb
  mw : mb ≠ wb
  mg : ¬ G mb
  xw : mbb ≠ wb
  xg : ¬ G mbb
  wg : ¬ G wb
structure Pb (bb mb mbb pb wb : Nat) (B : Bs) (F G : Nat → Prop) (w : World) : Prop where
  c0 : w.cell? ⟨bb, 0, none⟩ = some (.pointer (some ⟨mb, 0, none⟩))
  t : Tw bb 1 B.T w
  c7 : w.cell? ⟨bb, 7, none⟩ = some (.pointer (some ⟨pb, 0, none⟩))
  c8 : w.cell? ⟨bb, 8, none⟩ = some (.pointer (some ⟨wb, 0, none⟩))
  c9 : w.cell? ⟨bb, 9, none⟩ = some (.int .i64 B.n)
  f9 : w.frozen? ⟨bb, 9, none⟩ = false
  m : Pm mb mbb w B.M
  p : PO pb B.S F G w
  h : Pw wb B.W w
  s : Sep bb mb mbb wb G
/-- As much of it as a call reads that turns nothing. -/
structure Pv (bb mb mbb pb wb : Nat) (B : Bs) (F G : Nat → Prop) (w : World) : Prop where
  c0 : w.cell? ⟨bb, 0, none⟩ = some (.pointer (some ⟨mb, 0, none⟩))
  t : Tw bb 1 B.T w
  c7 : w.cell? ⟨bb, 7, none⟩ = some (.pointer (some ⟨pb, 0, none⟩))
  c8 : w.cell? ⟨bb, 8, none⟩ = some (.pointer (some ⟨wb, 0, none⟩))
  c9 : w.cell? ⟨bb, 9, none⟩ = some (.int .i64 B.n)
  m : Pm mb mbb w B.M
  p : PO pb B.S F G w
  h : Pw wb B.W w
theorem Pb.v {bb mb mbb pb wb : Nat} {B : Bs} {F G : Nat → Prop} {w : World} (h : Pb bb mb mbb pb wb B F G w) : Pv bb mb mbb pb wb B F G w := ⟨h.c0, h.t, h.c7, h.c8, h.c9, h.m, h.p, h.h⟩
theorem Pv.below {bb mb mbb pb wb : Nat} {B : Bs} {F G : Nat → Prop} {w u : World} (h : Pv bb mb mbb pb wb B F G w) (hb : Below w.heap.size w u) : Pv bb mb mbb pb wb B F G u :=
  ⟨kc hb h.c0, h.t.below hb, kc hb h.c7, kc hb h.c8, kc hb h.c9, h.m.below hb, (PO.frm _ _).below h.p hb, h.h.below hb⟩
def footP (bb mbb wb : Nat) (F : Nat → Prop) (k : Nat) : Prop := k = bb ∨ k = mbb ∨ k = wb ∨ F k
def hangP (bb mb mbb wb : Nat) (G : Nat → Prop) (k : Nat) : Prop := k = bb ∨ k = mb ∨ k = mbb ∨ k = wb ∨ G k
def BO (bb : Nat) (B : Bs) : Thing := fun F G w => ∃ mb mbb pb wb F0 G0, Pb bb mb mbb pb wb B F0 G0 w ∧ F = footP bb mbb wb F0 ∧ G = hangP bb mb mbb wb G0
section
variable {bb mb mbb pb wb : Nat} {B B' : Bs} {F G F' G' : Nat → Prop} {w u v : World}
theorem Pb.fr {H : Nat → Prop} (h : Pb bb mb mbb pb wb B F G w) (hf : Fr H w u) (hn : ∀ k, hangP bb mb mbb wb G k → ¬ H k) : Pb bb mb mbb pb wb B F G u := by
  have n0 : ¬ H bb := hn _ (.inl rfl)
  exact ⟨hf.cell h.c0 n0, h.t.fr hf n0, hf.cell h.c7 n0, hf.cell h.c8 n0, hf.cell h.c9 n0, hf.frozen (klt h.c9) h.f9 n0,
    h.m.keep (hf.keep mb (klt h.m.c0) (hn _ (.inr (.inl rfl)))) (hf.keep mbb h.m.lt (hn _ (.inr (.inr (.inl rfl))))),
    (PO.frm _ _).fr h.p hf (fun k hk => hn _ (.inr (.inr (.inr (.inr hk))))), h.h.fr hf (hn _ (.inr (.inr (.inr (.inl rfl))))), h.s⟩
theorem Pb.below (h : Pb bb mb mbb pb wb B F G w) (hb : Below w.heap.size w u) : Pb bb mb mbb pb wb B F G u := h.fr (Fr.ofBelow (F := fun _ => False) hb) (fun _ _ f => f)
theorem Pb.lt (h : Pb bb mb mbb pb wb B F G w) : ∀ k, hangP bb mb mbb wb G k → k < w.heap.size := by
  rintro k (rfl | rfl | rfl | rfl | hk)
  · exact klt h.c0
  · exact klt h.m.c0
  · exact h.m.lt
  · exact h.h.lt
  · exact (PO.frm _ _).lt h.p k hk
theorem BO.frm (bb : Nat) (B : Bs) : Frm (BO bb B) := by
  refine ⟨?_, ?_, ?_⟩
  · rintro F G H w u ⟨mb, mbb, pb, wb, F0, G0, h, rfl, rfl⟩ hf hn
    exact ⟨mb, mbb, pb, wb, F0, G0, h.fr hf hn, rfl, rfl⟩
  · rintro F G w ⟨mb, mbb, pb, wb, F0, G0, h, rfl, rfl⟩ k (rfl | rfl | rfl | hk)
    · exact .inl rfl
    · exact .inr (.inr (.inl rfl))
    · exact .inr (.inr (.inr (.inl rfl)))
    · exact .inr (.inr (.inr (.inr ((PO.frm _ _).sub h.p k hk))))
  · rintro F G w ⟨mb, mbb, pb, wb, F0, G0, h, rfl, rfl⟩ k hk
    exact h.lt k hk
/-- What a call has left so far: it wrote the parts' blocks alone. -/
structure Bg (bb mb mbb pb wb : Nat) (F G : Nat → Prop) (w : World) (B' : Bs) (F' G' : Nat → Prop) (u : World) : Prop where
  b : Pb bb mb mbb pb wb B' F' G' u
  fr : Fr (footP bb mbb wb F) w u
  f : ∀ k, F' k → F k ∨ w.heap.size ≤ k
  g : ∀ k, G' k → G k ∨ w.heap.size ≤ k
theorem Bg.refl (h : Pb bb mb mbb pb wb B F G w) : Bg bb mb mbb pb wb F G w B F G w := ⟨h, Fr.refl _ _, fun _ h => .inl h, fun _ h => .inl h⟩
theorem Bg.below (h : Bg bb mb mbb pb wb F G w B' F' G' u) (hb : Below u.heap.size u v) : Bg bb mb mbb pb wb F G w B' F' G' v :=
  ⟨h.b.below hb, h.fr.trans (G := fun _ => False) (Fr.ofBelow hb) (fun _ _ f => f.elim), h.f, h.g⟩
theorem Bg.trans {B2 : Bs} {F2 G2 : Nat → Prop} (h : Bg bb mb mbb pb wb F G w B' F' G' u) (k : Bg bb mb mbb pb wb F' G' u B2 F2 G2 v) : Bg bb mb mbb pb wb F G w B2 F2 G2 v := by
  have hz := h.fr.size
  refine ⟨k.b, h.fr.trans k.fr ?_, fun j hj => ?_, fun j hj => ?_⟩
  · rintro j hj (e | e | e | e)
    · exact .inl e
    · exact .inr (.inl e)
    · exact .inr (.inr (.inl e))
    · exact (h.f j e).elim (fun h1 => .inr (.inr (.inr h1))) (fun h1 => by omega)
  · exact (k.f j hj).elim (h.f j) (fun h1 => .inr (by omega))
  · exact (k.g j hj).elim (h.g j) (fun h1 => .inr (by omega))
theorem Bg.put {nb : Nat} (h : Bg bb mb mbb pb wb F G w B' F' G' u) (hf : Fr (fun k => k = nb) u v) (hn : w.heap.size ≤ nb) (hg : ¬ hangP bb mb mbb wb G' nb) : Bg bb mb mbb pb wb F G w B' F' G' v :=
  ⟨h.b.fr hf (fun k hk e => hg (e ▸ hk)), h.fr.trans hf (fun b hb e => by omega), h.f, h.g⟩
theorem Pb.new {nb : Nat} (h : Pb bb mb mbb pb wb B F G w) (hn : w.heap.size ≤ nb) : ¬ hangP bb mb mbb wb G nb := fun e => by have := h.lt _ e; omega
/-- A block that came ahead of a call is none of the parts'. -/
theorem Pb.newG {nb : Nat} (h : Pb bb mb mbb pb wb B F G w) (hn : w.heap.size ≤ nb) (hg : ∀ k, G' k → G k ∨ nb < k) : ¬ hangP bb mb mbb wb G' nb := fun e => by
  have l := h.lt
  rcases e with e | e | e | e | e
  · have := l nb (.inl e); omega
  · have := l nb (.inr (.inl e)); omega
  · have := l nb (.inr (.inr (.inl e))); omega
  · have := l nb (.inr (.inr (.inr (.inl e)))); omega
  · rcases hg nb e with h1 | h1
    · have := l nb (.inr (.inr (.inr (.inr h1)))); omega
    · omega
theorem Bg.end_ {V : Value} (h : Bg bb mb mbb pb wb F G w B' F' G' u) : TEnd (BO bb B') (footP bb mbb wb F) (hangP bb mb mbb wb G) V w (.returned V) u := by
  refine ⟨rfl, _, _, ⟨mb, mbb, pb, wb, F', G', h.b, rfl, rfl⟩, h.fr, ?_, ?_⟩
  · rintro k (e | e | e | e)
    · exact .inl (.inl e)
    · exact .inl (.inr (.inl e))
    · exact .inl (.inr (.inr (.inl e)))
    · exact (h.f k e).imp (fun h1 => .inr (.inr (.inr h1))) id
  · rintro k (e | e | e | e | e)
    · exact .inl (.inl e)
    · exact .inl (.inr (.inl e))
    · exact .inl (.inr (.inr (.inl e)))
    · exact .inl (.inr (.inr (.inr (.inl e))))
    · exact (h.g k e).imp (fun h1 => .inr (.inr (.inr (.inr h1)))) id
/-- Of what stood there the bus's own block alone was written, its pointers were not. -/
structure Own (bb : Nat) (w u : World) : Prop where
  fr : Fr (fun k => k = bb) w u
  at_ : ∀ j, j = 0 ∨ j = 7 ∨ j = 8 → u.cell? ⟨bb, j, none⟩ = w.cell? ⟨bb, j, none⟩
theorem Own.trans (h : Own bb w u) (k : Own bb u v) : Own bb w v := ⟨h.fr.trans k.fr (fun _ _ e => e), fun j hj => (k.at_ j hj).trans (h.at_ j hj)⟩
theorem Own.below (h : Own bb w u) (hlt : bb < w.heap.size) (hb : Below u.heap.size u v) : Own bb w v :=
  ⟨h.fr.trans (G := fun _ => False) (Fr.ofBelow hb) (fun _ _ f => f.elim), fun j hj => (hb.cell (p := ⟨bb, j, none⟩) (Nat.lt_of_lt_of_le hlt h.fr.size)).trans (h.at_ j hj)⟩
theorem Own.ofTq {T : Tm} (h : Tq bb 1 w T u) : Own bb w u :=
  ⟨Fr.ofGrown h.g (fun b _ e => (Option.some.inj e).symm), fun j hj => (h.ot j (by omega)).1⟩
theorem Own.set (h : Own bb w u) (x : Value) : Own bb w (u.setCell ⟨bb, 9, none⟩ x) :=
  ⟨h.fr.setCell _ _ (fun _ => rfl), fun j hj => by
    rw [World.cell?_setCell_other _ _ _ _ (fun e => by have := congrArg Addr.off e; dsimp only at this; omega)]
    exact h.at_ j hj⟩
theorem Pb.own {T : Tm} {n : Int} (h : Pb bb mb mbb pb wb B F G w) (ho : Own bb w u) (ht : Tw bb 1 T u) (hc : u.cell? ⟨bb, 9, none⟩ = some (.int .i64 n)) (hf : u.frozen? ⟨bb, 9, none⟩ = false) :
    Bg bb mb mbb pb wb F G w ⟨B.M, T, B.S, B.W, n⟩ F G u := by
  have s := h.s
  refine ⟨⟨(ho.at_ 0 (by omega)).trans h.c0, ht, (ho.at_ 7 (by omega)).trans h.c7, (ho.at_ 8 (by omega)).trans h.c8, hc, hf, ?_, ?_, ?_, s⟩, ho.fr.mono (fun b _ e => .inl e), fun _ h => .inl h, fun _ h => .inl h⟩
  · exact h.m.keep (ho.fr.keep mb (klt h.m.c0) (fun e => s.bm e.symm)) (ho.fr.keep mbb h.m.lt (fun e => s.bx e.symm))
  · exact (PO.frm _ _).fr h.p ho.fr (fun k hk e => s.bg (e ▸ hk))
  · exact h.h.fr ho.fr (fun e => s.bw e.symm)
theorem Pb.mem {M : Int → Int × Int} (h : Pb bb mb mbb pb wb B F G w) (hg : w.grownBy u (some mbb)) (hm : Pm mb mbb u M) : Bg bb mb mbb pb wb F G w ⟨M, B.T, B.S, B.W, B.n⟩ F G u := by
  have s := h.s
  have hf : Fr (fun k => k = mbb) w u := Fr.ofGrown hg (fun b _ e => (Option.some.inj e).symm)
  have n0 : ¬ bb = mbb := s.bx
  exact ⟨⟨hf.cell h.c0 n0, h.t.fr hf n0, hf.cell h.c7 n0, hf.cell h.c8 n0, hf.cell h.c9 n0, hf.frozen (klt h.c9) h.f9 n0, hm, (PO.frm _ _).fr h.p hf (fun k hk e => s.xg (e ▸ hk)), h.h.fr hf (fun e => s.xw e.symm), s⟩,
    hf.mono (fun b _ e => .inr (.inl e)), fun _ h => .inl h, fun _ h => .inl h⟩
theorem Pb.wheel {W : Wh} (h : Pb bb mb mbb pb wb B F G w) (hf : Fr (fun k => k = wb) w u) (hw : Pw wb W u) : Bg bb mb mbb pb wb F G w ⟨B.M, B.T, B.S, W, B.n⟩ F G u := by
  have s := h.s
  have n0 : ¬ bb = wb := s.bw
  exact ⟨⟨hf.cell h.c0 n0, h.t.fr hf n0, hf.cell h.c7 n0, hf.cell h.c8 n0, hf.cell h.c9 n0, hf.frozen (klt h.c9) h.f9 n0, h.m.keep (hf.keep mb (klt h.m.c0) s.mw) (hf.keep mbb h.m.lt s.xw), (PO.frm _ _).fr h.p hf (fun k hk e => s.wg (e ▸ hk)), hw, s⟩,
    hf.mono (fun b _ e => .inr (.inr (.inl e))), fun _ h => .inl h, fun _ h => .inl h⟩
theorem Pb.ports {S : Po} (h : Pb bb mb mbb pb wb B F G w) (hM : Mv F G F' G' w u) (hp : PO pb S F' G' u) : Bg bb mb mbb pb wb F G w ⟨B.M, B.T, S, B.W, B.n⟩ F' G' u := by
  have s := h.s
  have hf := hM.fr
  have sub := (PO.frm _ _).sub h.p
  have n0 : ¬ F bb := fun e => s.bg (sub _ e)
  have nw : ∀ k, hangP bb mb mbb wb G k → ¬ G k → ¬ G' k := fun k hk hn hk' => (hM.g k hk').elim hn (fun h1 => by have := h.lt k hk; omega)
  exact ⟨⟨hf.cell h.c0 n0, h.t.fr hf n0, hf.cell h.c7 n0, hf.cell h.c8 n0, hf.cell h.c9 n0, hf.frozen (klt h.c9) h.f9 n0, h.m.keep (hf.keep mb (klt h.m.c0) (fun e => s.mg (sub _ e))) (hf.keep mbb h.m.lt (fun e => s.xg (sub _ e))), hp, h.h.fr hf (fun e => s.wg (sub _ e)),
      ⟨s.bm, s.bx, s.bw, nw _ (.inl rfl) s.bg, s.mw, nw _ (.inr (.inl rfl)) s.mg, s.xw, nw _ (.inr (.inr (.inl rfl))) s.xg, nw _ (.inr (.inr (.inr (.inl rfl)))) s.wg⟩⟩,
    hf.mono (fun b _ e => .inr (.inr (.inr e))), hM.f, hM.g⟩
end
end Go.Proofs.YtcnejgilmciljaaGreatDoor
set_option linter.unusedSimpArgs false
set_option linter.unusedVariables false
namespace Go.Proofs.YtcnejgilmciljaaGreatDoor
open Go.RowKit Go.PlainAid

set_option maxRecDepth 100000 in
set_option maxHeartbeats 2000000 in
theorem bits3_c (gb : Nat) (r a s : Bool) (w : World) (h0 : w.cell? ⟨gb, 0, none⟩ = some (.bool r)) (h1 : w.cell? ⟨gb, 1, none⟩ = some (.bool a)) (h2 : w.cell? ⟨gb, 2, none⟩ = some (.bool s)) :
    Calls Tryz.prog 107 #[.int .i64 0, .slice (some ⟨gb, 0, none⟩) 3 3] w fun e w' => e = .returned (.int .u8 (ctrlT r a s)) ∧ Below w.heap.size w w' := by
  have e01 : bits .or .u8 0 1 = 1 := by decide
  have e02 : bits .or .u8 0 2 = 2 := by decide
  have e04 : bits .or .u8 0 4 = 4 := by decide
  have e12 : bits .or .u8 1 2 = 3 := by decide
  have e14 : bits .or .u8 1 4 = 5 := by decide
  have e24 : bits .or .u8 2 4 = 6 := by decide
  have e34 : bits .or .u8 3 4 = 7 := by decide
  cases r <;> cases a <;> cases s
  all_goals
    go_enter Tryz.func107, Tryz.ntmps107
    go_wp2_with fail
    refine wp_loop_rounds 4 ?_
    rw [rounds_succ]
    go_wp2_with fail
    rw [rounds_succ]
    go_wp2_with fail
    rw [rounds_succ]
    go_wp2_with fail
    rw [rounds_succ]
    go_wp2
    go_ret
    exact ⟨rfl, by go_grown⟩
set_option maxRecDepth 100000 in
set_option maxHeartbeats 2000000 in
theorem bits1_c (gb : Nat) (g : Bool) (w : World) (h0 : w.cell? ⟨gb, 0, none⟩ = some (.bool g)) :
    Calls Tryz.prog 107 #[.int .i64 7, .slice (some ⟨gb, 0, none⟩) 1 1] w fun e w' => e = .returned (.int .u8 (if g then 128 else 0)) ∧ Below w.heap.size w w' := by
  have e01 : bits .or .u8 0 128 = 128 := by decide
  cases g
  all_goals
    go_enter Tryz.func107, Tryz.ntmps107
    go_wp2_with fail
    refine wp_loop_rounds 2 ?_
    rw [rounds_succ]
    go_wp2_with fail
    rw [rounds_succ]
    go_wp2
    go_ret
    exact ⟨rfl, by go_grown⟩
set_option maxRecDepth 100000 in
theorem readn_t (reg : Int) (w : World) : Calls Tryz.prog 101 #[.pointer none, .int .i64 reg] w fun e w' => e = .returned (.tuple #[.int .u8 0, .int .i64 2]) ∧ Below w.heap.size w w' := by
  go_enter Tryz.func101, Tryz.ntmps101
  go_wp2
  go_ret2
  exact ⟨rfl, by go_grown⟩
set_option maxRecDepth 100000 in
set_option maxHeartbeats 1000000 in
theorem readp_t (reg : Int) (tb o : Nat) (x : Tm) (hm : x.May) (w : World) (h : Tw tb o x w) : Calls Tryz.prog 101 #[.pointer (some ⟨tb, o, none⟩), .int .i64 reg] w fun e w' => e = .returned (.tuple #[.int .u8 (readT x reg), .int .i64 (regE reg)]) ∧ Below w.heap.size w w' := by
  have HB3 := Lib.hid (fun gb r a s W h0 h1 h2 => bits3_c gb r a s W h0 h1 h2)
  have HB1 := Lib.hid (fun gb g W h0 => bits1_c gb g W h0)
  obtain ⟨h0, h1, h2, h3, h4, h5⟩ := h.cells
  obtain ⟨l, c, r, a, s, g⟩ := x
  obtain ⟨m1, m2⟩ := hm
  dsimp only at *
  clear h
  rcases reg_cases reg with rfl | rfl | rfl | rfl | ⟨n0, n1, n2, n3⟩
  · have e : readT ⟨l, c, r, a, s, g⟩ 0 = c % 256 := rfl
    rw [e]
    go_enter Tryz.func101, Tryz.ntmps101
    go_wp2
    go_ret2
    exact ⟨by first | rfl | (simp [regE]; done), by go_grown⟩
  · have e : readT ⟨l, c, r, a, s, g⟩ 1 = c / 256 := rfl
    rw [e]
    have hc : c / 256 % 256 = c / 256 := by omega
    go_enter Tryz.func101, Tryz.ntmps101
    go_wp2
    go_ret2
    exact ⟨by first | rfl | (simp [regE, hc]; done), by go_grown⟩
  · have e : readT ⟨l, c, r, a, s, g⟩ 2 = ctrlT r a s := rfl
    rw [e]
    clear e
    have ht_0 := h0
    have ht_1 := h1
    have ht_2 := h2
    have ht_3 := h3
    have ht_4 := h4
    have hlt := klt h0
    clear h0 h1 h2 h3 h4 h5
    go_enter Tryz.func101, Tryz.ntmps101
    go_wp2_with fail
    refine wp_region_planT 12 (fun w' => w'.cell? ⟨tb, o, none⟩ = some (.int .i64 l) ∧ w'.cell? ⟨tb, o + 1, none⟩ = some (.int .i64 c) ∧ w'.cell? ⟨tb, o + 2, none⟩ = some (.bool r) ∧ w'.cell? ⟨tb, o + 3, none⟩ = some (.bool a) ∧ w'.cell? ⟨tb, o + 4, none⟩ = some (.bool s) ∧ Below w.heap.size w w') (by kernel_rfl) (by kernel_rfl) (by kernel_rfl) (by kernel_rfl) ?_ ?_
    · (try dsimp only)
      refine ⟨?_, ?_, ?_, ?_, ?_, ?_⟩ <;> first | (go_simp; done) | (simp [*]; done) | go_grown
    (try simp only [List.append_eq, List.cons_append, List.nil_append, List.toList_toArray, List.take_succ_cons, List.take_zero, List.drop_succ_cons, List.drop_zero])
    repeat (first
      | (refine Plan.val (v := ?_) ?_ ?_ ?_; rotate_left; (· rfl); (· (intro W hSw; (try dsimp only at hSw); go_simp; all_goals (first | (with_reducible rfl) | (constructor <;> (with_reducible rfl)) | (rw [if_neg (by omega)]; done) | (rw [if_neg (by omega)]; with_reducible rfl)))); (try simp only [Act.put, List.setIfInBounds_toArray, List.set_cons_zero, List.set_cons_succ]))
      | (refine Plan.no ?_ ?_; (· rfl); (try simp only [Act.put, List.setIfInBounds_toArray, List.set_cons_zero, List.set_cons_succ])))
    refine Plan.done ?_
    intro u1 T
    (try dsimp only at T)
    obtain ⟨ht_0, ht_1, ht_2, ht_3, ht_4, hB⟩ := T
    have hsz := hB.size
    have hlt := klt ht_0
    obtain ⟨hnt0, hnt1, hkt1, hnt2, hkt2⟩ := ap0 hlt
    go_wp2_with fail
    ((with_reducible refine (HB3.out _ r a s _ (by go_simp) (by go_simp) (by go_simp)).mono ?_); rintro _ u2 ⟨rfl, hb⟩)
    have hz := hb.size
    (try simp only [World.size_alloc, World.size_setCell, World.size_drew] at hz)
    have hB' : Below w.heap.size w u2 := by
        refine kb ?_ hb
        go_grown
    clear ht_0 ht_1 ht_2 ht_3 ht_4 hB hsz hlt hnt0 hnt1 hkt1 hnt2 hkt2
    clear hb hz
    have hB := hB'; clear hB'
    have hsz := hB.size
    go_wp2
    go_ret2
    exact ⟨by first | rfl | (simp [regE]; done), by go_grown⟩
  · have e : readT ⟨l, c, r, a, s, g⟩ 3 = if g then 128 else 0 := rfl
    rw [e]
    clear e
    have HBg := Lib.hid (fun gb W h0 => HB1.out gb g W h0)
    generalize (if g = true then (128 : Int) else 0) = G at HBg ⊢
    go_enter Tryz.func101, Tryz.ntmps101
    go_wp2_with fail
    refine (HBg.out _ _ (by go_simp)).mono ?_
    rintro _ u ⟨rfl, hb⟩
    have hB : Below w.heap.size w u := ((Below.refl _ _).alloc (Nat.le_refl _) _).trans (hb.mono (by simp))
    clear hb h0 h1 h2 h3 h4 h5
    go_wp2
    go_ret2
    exact ⟨by first | rfl | (simp [regE]; done), by go_grown⟩
  · have e : readT ⟨l, c, r, a, s, g⟩ reg = 0 := by unfold readT; rw [if_neg n0, if_neg n1, if_neg n2, if_neg n3]
    have eE : regE reg = 10 := by unfold regE; rw [if_neg (by omega)]
    rw [e, eE]
    have d0 : (reg == 0) = false := by simpa using n0
    have d1 : (reg == 1) = false := by simpa using n1
    have d2 : (reg == 2) = false := by simpa using n2
    have d3 : (reg == 3) = false := by simpa using n3
    clear n0 n1 n2 n3 e eE
    go_enter Tryz.func101, Tryz.ntmps101
    go_wp2
    go_ret2
    exact ⟨rfl, by go_grown⟩
set_option maxRecDepth 100000 in
theorem writeb_t (reg v : Int) (hr : ¬ (0 ≤ reg ∧ reg ≤ 3)) (tb o : Nat) (w : World) : Calls Tryz.prog 103 #[.pointer (some ⟨tb, o, none⟩), .int .i64 reg, .int .u8 v] w fun e w' => e = .returned (.int .i64 10) ∧ Below w.heap.size w w' := by
  have d0 : (reg == 0) = false := by simp; omega
  have d1 : (reg == 1) = false := by simp; omega
  have d2 : (reg == 2) = false := by simp; omega
  have d3 : (reg == 3) = false := by simp; omega
  clear hr
  go_enter Tryz.func103, Tryz.ntmps103
  go_wp2
  go_ret
  exact ⟨rfl, by go_grown⟩
/-- The calls that write, as a law's walk takes them. -/
theorem tickp_x (tb o : Nat) (x : Tm) (hm : x.May) (w : World) (h : Tw tb o x w) : Calls Tryz.prog 73 #[.pointer (some ⟨tb, o, none⟩)] w fun e w' => e = .returned (.tuple #[]) ∧ w.grownBy w' (some tb) ∧ Tw tb o (tickT x) w' :=
  (tickp_c tb o x hm w h).mono fun _ _ ⟨h1, h2⟩ => ⟨h1, h2.g, h2.t⟩
theorem writep_x (reg v : Int) (hv : 0 ≤ v ∧ v ≤ 255) (tb o : Nat) (x : Tm) (hm : x.May) (w : World) (h : Tw tb o x w) : Calls Tryz.prog 103 #[.pointer (some ⟨tb, o, none⟩), .int .i64 reg, .int .u8 v] w fun e w' => e = .returned (.int .i64 (regE reg)) ∧ w.grownBy w' (some tb) ∧ Tw tb o (writeT x reg v) w' :=
  (writep_t reg v hv tb o x hm w h).mono fun _ _ ⟨h1, h2⟩ => ⟨h1, h2.g, h2.t⟩
end Go.Proofs.YtcnejgilmciljaaGreatDoor
set_option linter.unusedSimpArgs false
set_option linter.unusedVariables false
namespace Go.Proofs.YtcnejgilmciljaaGreatDoor
open Go.RowKit Go.PlainAid

/-- A call that answers a row of its own; one that answers a struct of one such row. -/
def kRow (T : TypeId) (k n : Nat) (xs : List Value) : KdR := .any undef (fun _ => True) (fun x w => w.ownsRow x.lo T k x.v n xs ∧ ∀ b, x.v.ownBlock = some b → b < x.hi)
theorem kRow_fine (T : TypeId) (k n : Nat) (xs : List Value) : (kRow T k n xs).Fine := ⟨trivial, fun x W w1 h hb => ⟨own_below h.1 hb, h.2⟩, fun _ _ _ => trivial⟩
def kRowA (T : TypeId) (k n : Nat) (xs : List Value) : KdR := .any (.agg #[undef]) (fun v => ∃ u, v = .agg #[u]) (fun x w => ∃ u, x.v = .agg #[u] ∧ w.ownsRow x.lo T k u n xs ∧ ∀ b, u.ownBlock = some b → b < x.hi)
theorem kRowA_fine (T : TypeId) (k n : Nat) (xs : List Value) : (kRowA T k n xs).Fine := ⟨⟨_, rfl⟩, fun x W w1 h hb => by obtain ⟨u, h1, h2, h3⟩ := h; exact ⟨u, h1, own_below h2 hb, h3⟩, fun x w h => by obtain ⟨u, h1, _⟩ := h; exact ⟨u, h1⟩⟩
set_option maxRecDepth 100000 in
theorem clonep_nil (w : World) : Calls Tryz.prog 65 #[.pointer none] w fun e w' => e = .returned (.pointer none) ∧ Below w.heap.size w w' := by
  go_enter Tryz.func65, Tryz.ntmps65
  go_wp2
  go_ret
  exact ⟨rfl, by go_grown⟩
set_option maxRecDepth 100000 in
set_option maxHeartbeats 8000000 in
theorem pclone_c (pb : Nat) (S : Po) (hS : Fit S) (F G : Nat → Prop) (w : World) (h : PO pb S F G w) :
    Calls Tryz.prog 65 #[.pointer (some ⟨pb, 0, none⟩)] w (NewEndP S (fun v => v) w) := by
  obtain ⟨x, y, a, b, c, h, rfl, rfl⟩ := h
  have hlt := h.hold.lt
  obtain ⟨⟨k2, o2⟩, ⟨k3, o3⟩, k4, o4⟩ := h.at0
  obtain ⟨p2, c2, rfl⟩ := own_form o2
  obtain ⟨p3, c3, rfl⟩ := own_form o3
  obtain ⟨p4, c4, rfl⟩ := own_form o4
  have hf := hS
  have hlog := hS.log
  have HI1 := Lib.hid (fun W (hW : Below w.heap.size w W) => clonei_b pb 0 _ S.pub (by have := hf.pub; omega) _ W (h.p.below hW))
  have HI2 := Lib.hid (fun W (hW : Below w.heap.size w W) => clonei_k pb 1 _ (secT S.sec) (by rw [secT_len]; have := hf.sec; omega) _ W (h.s.below hW))
  have HC2 := Lib.hid (fun W (hW : Below w.heap.size w W) => clone_b S.out (by have := hf.out; omega) _ W ((HoldsW.own bE_len o2).below hW))
  have HC3 := Lib.hid (fun W (hW : Below w.heap.size w W) => clone_k S.kept (by have := hf.kept; omega) _ W ((HoldsW.own kE_len o3).below hW))
  have HC4 := Lib.hid (fun W (hW : Below w.heap.size w W) => clone_e S.log (by have := hf.told; omega) _ W ((HoldsW.own eE_len o4).below hW))
  clear h o2 o3 o4 hf hlog hS
  generalize hn2 : S.out.length = n2 at *
  generalize hn3 : S.kept.length = n3 at *
  generalize hn4 : S.log.length = n4 at *
  have HN := Lib.hid (And.intro hn2 (And.intro hn3 hn4))
  clear hn2 hn3 hn4
  go_enter Tryz.func65, Tryz.ntmps65
  go_wp2_with fail
  refine wp_region_planD 9 23 (fun W => W.cell? ⟨pb, 2, none⟩ = some (.slice p2 n2 c2) ∧ W.cell? ⟨pb, 3, none⟩ = some (.slice p3 n3 c3) ∧ W.cell? ⟨pb, 4, none⟩ = some (.slice p4 n4 c4) ∧ Below w.heap.size w W)
    [.val (.pointer (some ⟨pb, 0, none⟩)), .val (.pointer (some ⟨pb, 0, none⟩)), .val (.pointer (some ⟨pb, 0, none⟩)), kRowA 5 1 S.pub.length (S.pub.flatMap bE), .val (.pointer (some ⟨pb, 0, none⟩)), .val (.pointer (some ⟨pb, 0, none⟩)), .val (.pointer (some ⟨pb, 1, none⟩)), kRowA 49 2 (secT S.sec).length ((secT S.sec).flatMap kE), .val (.pointer (some ⟨pb, 0, none⟩)), .val (.pointer (some ⟨pb, 0, none⟩)), .val (.pointer (some ⟨pb, 2, none⟩)), .val (.slice p2 n2 c2), kRow 5 1 n2 (S.out.flatMap bE), .val (.pointer (some ⟨pb, 0, none⟩)), .val (.pointer (some ⟨pb, 0, none⟩)), .val (.pointer (some ⟨pb, 3, none⟩)), .val (.slice p3 n3 c3), kRow 49 2 n3 (S.kept.flatMap kE), .val (.pointer (some ⟨pb, 0, none⟩)), .val (.pointer (some ⟨pb, 0, none⟩)), .val (.pointer (some ⟨pb, 4, none⟩)), .val (.slice p4 n4 c4), kRow 109 2 n4 (S.log.flatMap eE)]
    (by kernel_rfl) (by kernel_rfl) (by kernel_rfl) (by kernel_rfl) (by kernel_rfl) (fun W w1 h hb => ⟨kc hb h.1, kc hb h.2.1, kc hb h.2.2.1, h.2.2.2.trans (hb.mono h.2.2.2.size)⟩) ?_ ?_ ?_
  · intro k hk
    simp only [List.mem_cons, List.not_mem_nil, or_false] at hk
    rcases hk with rfl | rfl | rfl | rfl | rfl | rfl | rfl | rfl | rfl | rfl | rfl | rfl | rfl | rfl | rfl | rfl | rfl | rfl | rfl | rfl | rfl | rfl | rfl <;> first | exact trivial | exact kRow_fine _ _ _ _ | exact kRowA_fine _ _ _ _
  · exact ⟨k2, k3, k4, Below.drew (Below.refl _ _)⟩
  (try simp only [List.append_eq, List.cons_append, List.nil_append, List.toList_toArray, List.take_succ_cons, List.take_zero, List.drop_succ_cons, List.drop_zero])
  (iterate 3 (refine PlanR.val ?_ ?_ ?_; (· rfl); (· (intro W hSw; (try dsimp only at hSw); go_simp; all_goals (first | (with_reducible rfl) | (constructor <;> (with_reducible rfl))))); intro _ _; (try simp only [Act.put, List.setIfInBounds_toArray, List.set_cons_zero, List.set_cons_succ])))
  refine PlanR.any ?_ ?_ ?_
  · rfl
  · intro W hSw _
    (try dsimp only at hSw)
    go_simp
    refine ⟨rfl, (HI1.out W hSw.2.2.2).mono ?_⟩
    rintro _ u ⟨v', rfl, hv', hb⟩
    exact ⟨_, rfl, hb, v', rfl, hv', fun b hb2 => (hv'.lt b hb2).2⟩
  rintro ⟨_, lovx, hivx⟩ ⟨vx, rfl⟩
  (try simp only [Act.put, List.setIfInBounds_toArray, List.set_cons_zero, List.set_cons_succ])
  (iterate 3 (refine PlanR.val ?_ ?_ ?_; (· rfl); (· (intro W hSw; (try dsimp only at hSw); go_simp; all_goals (first | (with_reducible rfl) | (constructor <;> (with_reducible rfl))))); intro _ _; (try simp only [Act.put, List.setIfInBounds_toArray, List.set_cons_zero, List.set_cons_succ])))
  refine PlanR.any ?_ ?_ ?_
  · rfl
  · intro W hSw _
    (try dsimp only at hSw)
    go_simp
    refine ⟨rfl, (HI2.out W hSw.2.2.2).mono ?_⟩
    rintro _ u ⟨v', rfl, hv', hb⟩
    exact ⟨_, rfl, hb, v', rfl, hv', fun b hb2 => (hv'.lt b hb2).2⟩
  rintro ⟨_, lovy, hivy⟩ ⟨vy, rfl⟩
  (try simp only [Act.put, List.setIfInBounds_toArray, List.set_cons_zero, List.set_cons_succ])
  (iterate 4 (refine PlanR.val ?_ ?_ ?_; (· rfl); (· (intro W hSw; (try dsimp only at hSw); go_simp; all_goals (first | (with_reducible rfl) | (constructor <;> (with_reducible rfl))))); intro _ _; (try simp only [Act.put, List.setIfInBounds_toArray, List.set_cons_zero, List.set_cons_succ])))
  refine PlanR.any ?_ ?_ ?_
  · rfl
  · intro W hSw _
    (try dsimp only at hSw)
    go_simp
    refine ⟨rfl, (HC2.out W hSw.2.2.2).mono ?_⟩
    rintro _ u ⟨v', rfl, hv', hb⟩
    exact ⟨_, rfl, hb, hv', fun b hb2 => (hv'.lt b hb2).2⟩
  rintro ⟨va, lova, hiva⟩ _
  (try simp only [Act.put, List.setIfInBounds_toArray, List.set_cons_zero, List.set_cons_succ])
  (iterate 4 (refine PlanR.val ?_ ?_ ?_; (· rfl); (· (intro W hSw; (try dsimp only at hSw); go_simp; all_goals (first | (with_reducible rfl) | (constructor <;> (with_reducible rfl))))); intro _ _; (try simp only [Act.put, List.setIfInBounds_toArray, List.set_cons_zero, List.set_cons_succ])))
  refine PlanR.any ?_ ?_ ?_
  · rfl
  · intro W hSw _
    (try dsimp only at hSw)
    go_simp
    refine ⟨rfl, (HC3.out W hSw.2.2.2).mono ?_⟩
    rintro _ u ⟨v', rfl, hv', hb⟩
    exact ⟨_, rfl, hb, hv', fun b hb2 => (hv'.lt b hb2).2⟩
  rintro ⟨vb, lovb, hivb⟩ _
  (try simp only [Act.put, List.setIfInBounds_toArray, List.set_cons_zero, List.set_cons_succ])
  (iterate 4 (refine PlanR.val ?_ ?_ ?_; (· rfl); (· (intro W hSw; (try dsimp only at hSw); go_simp; all_goals (first | (with_reducible rfl) | (constructor <;> (with_reducible rfl))))); intro _ _; (try simp only [Act.put, List.setIfInBounds_toArray, List.set_cons_zero, List.set_cons_succ])))
  refine PlanR.any ?_ ?_ ?_
  · rfl
  · intro W hSw _
    (try dsimp only at hSw)
    go_simp
    refine ⟨rfl, (HC4.out W hSw.2.2.2).mono ?_⟩
    rintro _ u ⟨v', rfl, hv', hb⟩
    exact ⟨_, rfl, hb, hv', fun b hb2 => (hv'.lt b hb2).2⟩
  rintro ⟨vc, lovc, hivc⟩ _
  (try simp only [Act.put, List.setIfInBounds_toArray, List.set_cons_zero, List.set_cons_succ])
  refine PlanR.done ?_
  intro u G
  have hB : Below w.heap.size w u := G.s.2.2.2
  obtain ⟨⟨ux, ex, hx, lx⟩, -, bx2, bx3⟩ := G.each 3 (by decide) rfl
  obtain ⟨⟨uy, ey, hy, ly⟩, -, by2, by3⟩ := G.each 7 (by decide) rfl
  obtain ⟨⟨h2, l2⟩, b21, b22, b23⟩ := G.each 12 (by decide) rfl
  obtain ⟨⟨h3, l3⟩, b31, b32, b33⟩ := G.each 17 (by decide) rfl
  obtain ⟨⟨h4, l4⟩, b41, b42, b43⟩ := G.each 22 (by decide) rfl
  have ax := (G.each 3 (by decide) rfl).2.1
  have ay := (G.each 7 (by decide) rfl).2.1
  have e1 := G.apart 3 12 (by decide) (by decide) rfl rfl (by decide)
  have e2 := G.apart 3 17 (by decide) (by decide) rfl rfl (by decide)
  have e3 := G.apart 3 22 (by decide) (by decide) rfl rfl (by decide)
  have e4 := G.apart 7 12 (by decide) (by decide) rfl rfl (by decide)
  have e5 := G.apart 7 17 (by decide) (by decide) rfl rfl (by decide)
  have e6 := G.apart 7 22 (by decide) (by decide) rfl rfl (by decide)
  have e7 := G.apart 12 17 (by decide) (by decide) rfl rfl (by decide)
  have e8 := G.apart 12 22 (by decide) (by decide) rfl rfl (by decide)
  have e9 := G.apart 17 22 (by decide) (by decide) rfl rfl (by decide)
  clear G
  simp (config := { decide := true }) only [if_true, if_false, ite_true, ite_false, Nat.reduceEqDiff, reduceIte] at ex hx lx ey hy ly h2 l2 h3 l3 h4 l4 bx2 bx3 by2 by3 b21 b22 b23 b31 b32 b33 b41 b42 b43 ax ay e1 e2 e3 e4 e5 e6 e7 e8 e9
  obtain ⟨px, cx, fx⟩ := own_form hx
  obtain ⟨py, cy, fy⟩ := own_form hy
  obtain ⟨pa, ca, rfl⟩ := own_form h2
  obtain ⟨pb', cb, rfl⟩ := own_form h3
  obtain ⟨pc, cc, rfl⟩ := own_form h4
  injection ex with ex
  injection ey with ey
  cases ex
  cases ey
  subst fx
  subst fy
  have HR := Lib.hid (po_new (S := S) (T := 127) hB (own_low hx ax) (own_low hy ay) (own_low (by rw [HN.out.1]; exact h2) b21) (own_low (by rw [HN.out.2.1]; exact h3) b31) (own_low (by rw [HN.out.2.2]; exact h4) b41)
    (fun k hk => by
      have q1 := hx.lt k hk
      have q2 := lx k hk
      refine ⟨fun e => ?_, fun e => ?_, fun e => ?_⟩
      · have r1 := h2.lt k e; have r2 := l2 k e; omega
      · have r1 := h3.lt k e; have r2 := l3 k e; omega
      · have r1 := h4.lt k e; have r2 := l4 k e; omega)
    (fun k hk => by
      have q1 := hy.lt k hk
      have q2 := ly k hk
      refine ⟨fun e => ?_, fun e => ?_, fun e => ?_⟩
      · have r1 := h2.lt k e; have r2 := l2 k e; omega
      · have r1 := h3.lt k e; have r2 := l3 k e; omega
      · have r1 := h4.lt k e; have r2 := l4 k e; omega)
    (fun k hk => by
      have q1 := h2.lt k hk
      have q2 := l2 k hk
      refine ⟨fun e => ?_, fun e => ?_⟩
      · have r1 := h3.lt k e; have r2 := l3 k e; omega
      · have r1 := h4.lt k e; have r2 := l4 k e; omega)
    (fun k hk => by
      have q1 := h3.lt k hk
      have q2 := l3 k hk
      intro e
      have r1 := h4.lt k e; have r2 := l4 k e; omega))
  have HB := Lib.hid hB
  clear hx hy h2 h3 h4 lx ly l2 l3 l4 bx2 bx3 by2 by3 b21 b22 b23 b31 b32 b33 b41 b42 b43 ax ay e1 e2 e3 e4 e5 e6 e7 e8 e9 hB
  go_wp2
  go_ret
  obtain ⟨F, G, hP, hG⟩ := HR.out
  exact ⟨_, F, G, rfl, hP, hG, HB.out.size, HB.out.alloc HB.out.size _⟩
end Go.Proofs.YtcnejgilmciljaaGreatDoor
