/-
  BusPlays: a bus beside the document's, in the law's loop.
-/
import Derived.Test.YtcnejgilmciljaaGreatDoorProgw10
import Derived.Test.YtcnejgilmciljaaGreatDoorSame13
set_option linter.unusedSimpArgs false
set_option linter.unusedVariables false
namespace Go.Proofs.YtcnejgilmciljaaGreatDoor
open Go.RowKit Go.PlainAid

/-- Both, apart, above what was there. -/
structure PlaysI (BO : Nat → Bs → Thing) (N : Nat) (w : World) (bb rb : Nat) (Q : Bs) (B : Bd) (F G F' G' : Nat → Prop) (u : World) : Prop where
  o : BO bb Q F G u
  d : DB rb B F' G' u
  ap : Apart F G F' G'
  b : Below w.heap.size w u
  f : ∀ k, F k → N ≤ k
  f' : ∀ k, F' k → N ≤ k
  z : N ≤ u.heap.size
section
variable {BO : Nat → Bs → Thing} {N : Nat} {w : World} {bb rb : Nat} {Q Q' : Bs} {B B' : Bd} {F G F' G' F1 G1 : Nat → Prop} {u v : World}
theorem PlaysI.below (K : BusK BO) (h : PlaysI BO N w bb rb Q B F G F' G' u) (hb : Below u.heap.size u v) : PlaysI BO N w bb rb Q B F G F' G' v :=
  ⟨(K.frm _ _).below h.o hb, (DB.frm _ _).below h.d hb, h.ap, Below.trans h.b (hb.mono h.b.size), h.f, h.f', Nat.le_trans h.z hb.size⟩
theorem PlaysI.stepP (h : PlaysI BO N w bb rb Q B F G F' G' u) (hN : w.heap.size ≤ N) (ho : BO bb Q' F1 G1 v) (hM : Mv F G F1 G1 u v) : PlaysI BO N w bb rb Q' B F1 G1 F' G' v :=
  ⟨ho, hM.stay (DB.frm _ _) h.d h.ap, hM.apart (DB.frm _ _) h.d h.ap, hM.lowB h.b (fun k hk => by have := h.f k hk; omega) (Nat.le_refl _), hM.low h.f h.z, h.f', Nat.le_trans h.z hM.fr.size⟩
theorem PlaysI.stepD (K : BusK BO) (h : PlaysI BO N w bb rb Q B F G F' G' u) (hN : w.heap.size ≤ N) (hd : DB rb B' F1 G1 v) (hM : Mv F' G' F1 G1 u v) : PlaysI BO N w bb rb Q B' F G F1 G1 v :=
  ⟨hM.stay (K.frm _ _) h.o h.ap.symm, hd, (hM.apart (K.frm _ _) h.o h.ap.symm).symm, hM.lowB h.b (fun k hk => by have := h.f' k hk; omega) (Nat.le_refl _), h.f, hM.low h.f' h.z, Nat.le_trans h.z hM.fr.size⟩
theorem PlaysI.laid (h : PlaysI BO N w bb rb Q B F G F' G' u) (hL : Laid w) : Laid u := hL.keep (h.b.block 0 hL.lt)
end
/-- They tell the same. -/
def RelB (k j : Nat) (Q : Bs) (B : Bd) (M : Int → Int × Int) : Prop := Q = B.q M ∧ Corr M B.L ∧ RealL B.L ∧ Room k Q ∧ B.L.length ≤ 720 + j
section
variable {k j : Nat} {Q : Bs} {B : Bd} {M : Int → Int × Int}
theorem RelB.read (h : RelB (k + 1) j Q B M) (a : Int) : RelB k (j + 1) (rdQ Q a) (rdD B a) M := by
  obtain ⟨rfl, hc, hr, hroom, hl⟩ := h
  exact ⟨rdQ_q B M a, by rw [rdD_L]; exact hc, rdD_real hr a, hroom.read a, by rw [rdD_L]; omega⟩
theorem RelB.write (h : RelB (k + 1) j Q B M) (a v t : Int) (hv : 0 ≤ v ∧ v ≤ 255) : ∃ M', RelB k (j + 1) (wrQ Q a v t) (wrD B a v t) M' := by
  obtain ⟨rfl, hc, hr, hroom, hl⟩ := h
  obtain ⟨M', e, hc'⟩ := wrQ_q a v t hc
  exact ⟨M', e, hc', wrD_real hr a v t, hroom.write a v t hv, by have := wrD_len B a v t; omega⟩
theorem RelB.may (h : RelB k j Q B M) (hj : j ≤ 1000) : B.May := by
  obtain ⟨rfl, hc, hr, hroom, hl⟩ := h
  exact bd_may hroom (by omega)
theorem RelB.rd (h : RelB k j Q B M) (a : Int) : rdB (memV Q.M) Q.T Q.S Q.W a = rdB (atP B.L) B.T B.S B.W a := by
  obtain ⟨rfl, hc, hr, hroom, hl⟩ := h
  exact rdB_q hc a
theorem RelB.wrS (h : RelB k j Q B M) : Q.S = B.S := by
  obtain ⟨rfl, _⟩ := h
  rfl
theorem su_rel (s : Su) (h : fewS s = true) (hT : s.T.May) : RelB 1000000 0 (suQ s) (suD s) (suM s) := by
  have hf := few_len h
  exact ⟨rfl, su_corr s, su_real s, suQ_room s hT (by omega) (by omega), suL_len s hf.2.2.2 hf.2.2.1⟩
theorem RelB.less {k' : Nat} (h : RelB k j Q B M) (hk : k' ≤ k) : RelB k' j Q B M := ⟨h.1, h.2.1, h.2.2.1, h.2.2.2.1.less hk, h.2.2.2.2⟩
end
end Go.Proofs.YtcnejgilmciljaaGreatDoor
