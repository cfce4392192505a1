/-
  Layer 7's laws: calls of a known value, and calls that answer a policy, in a region that draws; lists that lie apart from two blocks.
-/
import Derived.Test.YtjcmblbnbpikfaaGreatDoorIsq7
import Derived.Test.YtjcmblbnbpikfaaGreatDoorLawKit
set_option linter.unusedSimpArgs false
set_option linter.unusedVariables false
namespace Go.Proofs.YtjcmblbnbpikfaaGreatDoor
open Go.RowKit Go.PlainAid

theorem holdsP_of {w : World} {v1 v2 : Value} {s k : List Sp} {d t : Int} (h1 : HoldsS w v1 s) (h2 : HoldsS w v2 k) : HoldsP w (.agg #[v1, v2, .int .i64 d, .int .i64 t]) ⟨s, k, d, t⟩ := ⟨_, _, rfl, h1, h2⟩
/-- A call whose value is known. -/
theorem PlanR.oval {P : Program} {ops : Array Oper} {S : World → Prop} {KS : List KdR} {K : (Nat → Gt) → Act → Prop} {m : Nat} {ks : List KdR} {o : Oper} {r : List Oper} {vs : Nat → Gt} {a : Act} {v : Value} (hw : Region.wanted o (yielded ops a.tmps) = true) (hv : ∀ w, S w → (∀ j, j < m → depB ops o j = true → phiK KS j vs (vs j) w) → OneR P w (fun x _ => x.v = v) ((execOp a.eval o).run P w)) (h : ∀ lo hi, PlanR P ops S KS K (m + 1) ks r (fun j => if j = m then ⟨v, lo, hi⟩ else vs j) (a.put o.dst v)) : PlanR P ops S KS K m (.val v :: ks) (o :: r) vs a :=
  ⟨.inl ⟨hw, hv⟩, fun x hx => by
    obtain ⟨xv, lo, hi⟩ := x
    obtain rfl : xv = v := hx
    exact h lo hi⟩
/-- A call that answers a policy. -/
def kPv (P : Pol) : KdR := .any undef (fun _ => True) (fun x w => HoldsP w x.v P)
theorem kPv_fine (P : Pol) : (kPv P).Fine := ⟨trivial, fun x W w1 h hb => h.below hb, fun _ _ _ => trivial⟩
/-- A list of the document's spans that lies apart from two blocks. -/
def Dk (B1 B2 : Nat) (W : World) (v : Value) (l : List Sp) : Prop := HoldsD W v l ∧ (l ≠ [] → ∀ g, v.ownBlock = some g → g ≠ B1 ∧ g ≠ B2)
theorem Dk.h {B1 B2 : Nat} {W : World} {v : Value} {l : List Sp} (h : Dk B1 B2 W v l) : HoldsD W v l := h.1
theorem Dk.below {B1 B2 : Nat} {W y : World} {v : Value} {l : List Sp} (h : Dk B1 B2 W v l) (hb : Below W.heap.size W y) : Dk B1 B2 y v l := ⟨h.1.below hb, h.2⟩
theorem Dk.al {B1 B2 : Nat} {W : World} {v : Value} {l : List Sp} (h : Dk B1 B2 W v l) (o : Obj) : Dk B1 B2 (W.alloc o) v l := h.below ((Below.refl _ W).alloc (Nat.le_refl _) o)
theorem Dk.set1 {B1 B2 : Nat} {W : World} {v : Value} {l : List Sp} (h : Dk B1 B2 W v l) (o : Nat) (x : Value) : Dk B1 B2 (W.setCell ⟨B1, o, none⟩ x) v l := ⟨holdsE_set2 h.1 (fun hl g e => (h.2 hl g e).1) x, h.2⟩
theorem Dk.set2 {B1 B2 : Nat} {W : World} {v : Value} {l : List Sp} (h : Dk B1 B2 W v l) (o : Nat) (x : Value) : Dk B1 B2 (W.setCell ⟨B2, o, none⟩ x) v l := ⟨holdsE_set2 h.1 (fun hl g e => (h.2 hl g e).2) x, h.2⟩
theorem Dk.of_own {B1 B2 B : Nat} {W : World} {T : TypeId} {v : Value} {l : List Sp} {n : Nat} (h : W.ownsRow B T 3 v n (l.flatMap Sp.plain)) (hn : n = l.length) (h1 : B1 < B) (h2 : B2 < B) : Dk B1 B2 W v l :=
  ⟨HoldsE.own pl_len (by rw [← hn]; exact h), fun _ g e => by have := (h.lt g e).1; omega⟩
theorem Dk.of_old {B1 B2 : Nat} {W : World} {v : Value} {l : List Sp} (h : HoldsD W v l) (h1 : W.heap.size ≤ B1) (h2 : W.heap.size ≤ B2) : Dk B1 B2 W v l :=
  ⟨h, fun hl g e => by
    rcases h with ⟨_, rfl⟩ | ⟨g', o, cap, rfl, hc, h⟩
    · exact absurd rfl hl
    · obtain rfl : g' = g := by simpa [Value.ownBlock] using e
      cases l with
      | nil => exact absurd rfl hl
      | cons x r => have := klt (h 0 x rfl 0 _ rfl); omega⟩
theorem print_snd {p : Pol} (hb : Bits p) : (printM p).2 = checkM p := by
  by_cases h : checkM p = 0
  · rw [print_ok h hb, h]
  · unfold printM; rw [if_pos h]
theorem print_none {p : Pol} (h : checkM p ≠ 0) : txB (printM p).1 = ⟨#[]⟩ := by unfold printM; rw [if_pos h]
end Go.Proofs.YtjcmblbnbpikfaaGreatDoor
