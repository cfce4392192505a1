/-
  The law's same: whether ports have just what the document's answer has.
-/
import Derived.Test.YtcnejgilmciljaaGreatDoorOutk11
import Derived.Test.YtcnejgilmciljaaGreatDoorDevs13
import Derived.Test.YtcnejgilmciljaaGreatDoorBytes11
set_option linter.unusedSimpArgs false
set_option linter.unusedVariables false
namespace Go.Proofs.YtcnejgilmciljaaGreatDoor
open Go.RowKit Go.PlainAid

/-- What the document's ports tell, wherever their slices lie. -/
structure Vc (rb : Nat) (S : Po) (x y a b c d : Value) (w : World) : Prop where
  c0 : w.cell? ⟨rb, 0, none⟩ = some x
  c1 : w.cell? ⟨rb, 1, none⟩ = some y
  c2 : w.cell? ⟨rb, 2, none⟩ = some a
  c3 : w.cell? ⟨rb, 3, none⟩ = some b
  c4 : w.cell? ⟨rb, 4, none⟩ = some c
  c5 : w.cell? ⟨rb, 5, none⟩ = some d
  hx : HoldsW bE 1 w x S.pub
  hy : HoldsW bE 1 w y S.sec
  ha : HoldsW bE 1 w a S.out
  hb : HoldsW kE 2 w b S.kept
  hc : HoldsW cE 1 w c S.cyc
  hd : HoldsW bE 1 w d S.told
def Vw (rb : Nat) (S : Po) (w : World) : Prop := ∃ x y a b c d, Vc rb S x y a b c d w
theorem Vc.below {rb : Nat} {S : Po} {x y a b c d : Value} {w u : World} (h : Vc rb S x y a b c d w) (hb : Below w.heap.size w u) : Vc rb S x y a b c d u :=
  ⟨kc hb h.c0, kc hb h.c1, kc hb h.c2, kc hb h.c3, kc hb h.c4, kc hb h.c5, h.hx.below hb, h.hy.below hb, h.ha.below hb, h.hb.below hb, h.hc.below hb, h.hd.below hb⟩
theorem DO.view {rb : Nat} {S : Po} {F G : Nat → Prop} {w : World} (h : DO rb S F G w) : Vw rb S w := by
  obtain ⟨x, y, a, b, c, d, h, -, -⟩ := h
  obtain ⟨⟨k2, o2⟩, ⟨k3, o3⟩, ⟨k4, o4⟩, k5, o5⟩ := h.hold.at0
  exact ⟨x, y, a, b, c, d, h.p.c, h.s.c, k2, k3, k4, k5, h.p.h, h.s.h, HoldsW.own bE_len o2, HoldsW.own kE_len o3, HoldsW.own cE_len o4, HoldsW.own bE_len o5⟩
def kAns (v : Value) : KdR := .any v (fun u => u = v) (fun x _ => x.v = v)
theorem kAns_fine (v : Value) : (kAns v).Fine := ⟨rfl, fun x W w1 h hb => h, fun _ _ h => h⟩
end Go.Proofs.YtcnejgilmciljaaGreatDoor
