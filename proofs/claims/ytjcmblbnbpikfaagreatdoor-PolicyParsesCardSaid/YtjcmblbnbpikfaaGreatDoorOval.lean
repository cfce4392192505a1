/- Layer 7's laws: calls of a -/
import Derived.Test.YtjcmblbnbpikfaaGreatDoorIsq7
import Derived.Test.YtjcmblbnbpikfaaGreatDoorLawKit
set_option linter.unusedSimpArgs false
set_option linter.unusedVariables false
namespace Go.Proofs.YtjcmblbnbpikfaaGreatDoor
open Go.RowKit Go.PlainAid

theorem PlanR.oval {P : Program} {ops : Array Oper} {S : World → Prop} {KS : List KdR} {K : (Nat → Gt) → Act → Prop} {m : Nat} {ks : List KdR} {o : Oper} {r : List Oper} {vs : Nat → Gt} {a : Act} {v : Value} (hw : Region.wanted o (yielded ops a.tmps) = true) (hv : ∀ w, S w → (∀ j, j < m → depB ops o j = true → phiK KS j vs (vs j) w) → OneR P w (fun x _ => x.v = v) ((execOp a.eval o).run P w)) (h : ∀ lo hi, PlanR P ops S KS K (m + 1) ks r (fun j => if j = m then ⟨v, lo, hi⟩ else vs j) (a.put o.dst v)) : PlanR P ops S KS K m (.val v :: ks) (o :: r) vs a :=
 ⟨.inl ⟨hw, hv⟩, fun x hx => by
  obtain ⟨xv, lo, hi⟩ := x
  obtain rfl : xv = v := hx
  exact h lo hi⟩
def Dk (B1 B2 : Nat) (W : World) (v : Value) (l : List Sp) : Prop := HoldsD W v l ∧ (l ≠ [] → ∀ g, v.ownBlock = some g → g ≠ B1 ∧ g ≠ B2)
theorem Dk.h {B1 B2 : Nat} {W : World} {v : Value} {l : List Sp} (h : Dk B1 B2 W v l) : HoldsD W v l := h.1
theorem Dk.below {B1 B2 : Nat} {W y : World} {v : Value} {l : List Sp} (h : Dk B1 B2 W v l) (hb : Below W.heap.size W y) : Dk B1 B2 y v l := ⟨h.1.below hb, h.2⟩
theorem Dk.al {B1 B2 : Nat} {W : World} {v : Value} {l : List Sp} (h : Dk B1 B2 W v l) (o : Obj) : Dk B1 B2 (W.alloc o) v l := h.below ((Below.refl _ W).alloc (Nat.le_refl _) o)
end Go.Proofs.YtjcmblbnbpikfaaGreatDoor
