/-
  What WheelRolls' loop keeps; how its arguments lie.
-/
import Derived.Test.YtkabpnchfhkhgaaAwake12
import Derived.Deep.LoopGhost
set_option linter.unusedSimpArgs false
set_option linter.unusedVariables false
namespace Go.Proofs.Ytkabpnchfhkhgaa
open Go.RowKit Go.PlainAid

/-- A call: Write of a byte into a register. -/
structure Wc where
  reg : Int
  v : Int
  t : Int
instance : Inhabited Wc := ⟨⟨0, 0, 0⟩⟩
def wcE (x : Wc) : List Value := [.int .i64 x.reg, .int .u8 x.v, .int .u8 x.t]
def wcG (x : Wc) : Prop := (-9223372036854775808 ≤ x.reg ∧ x.reg ≤ 9223372036854775807) ∧ (0 ≤ x.v ∧ x.v ≤ 255) ∧ 0 ≤ x.t ∧ x.t ≤ 255
theorem wc_at {w wr : World} {g o k : Nat} {l : List Wc} (hc : ∀ j (x : Wc), l[j]? = some x → ∀ i u, (wcE x)[i]? = some u → w.cell? ⟨g, o + j * 3 + i, none⟩ = some u) (hb : Below w.heap.size w wr) (hk : k < l.length) :
    wr.cell? ⟨g, o + k * 3, none⟩ = some (.int .i64 l[k].reg) ∧ wr.cell? ⟨g, o + k * 3 + 1, none⟩ = some (.int .u8 l[k].v) ∧ wr.cell? ⟨g, o + k * 3 + 2, none⟩ = some (.int .u8 l[k].t) := by
  have h := hc k _ (List.getElem?_eq_getElem hk)
  refine ⟨kc hb ?_, kc hb ?_, kc hb ?_⟩
  · exact h 0 _ rfl
  · exact h 1 _ rfl
  · exact h 2 _ rfl
structure RollI (w : World) (wb rb kb : Nat) (R K : Wh) (cv : Value) (wr : World) : Prop where
  pw : Pw wb R wr
  rh : Rh rb R wr
  kh : Rh kb K wr
  mR : R.May
  mK : K.May
  bel : Below w.heap.size w wr
  ge : w.heap.size ≤ wb ∧ w.heap.size ≤ rb ∧ w.heap.size ≤ kb
  ne : wb ≠ rb ∧ wb ≠ kb ∧ rb ≠ kb
  cl : cv = .pointer none ∨ ∃ cb, cv = .pointer (some ⟨cb, 0, none⟩) ∧ Pw cb K wr ∧ w.heap.size ≤ cb ∧ cb ≠ wb ∧ cb ≠ rb ∧ cb ≠ kb
section
variable {w wr u : World} {wb rb kb : Nat} {R R' K : Wh} {cv : Value}
theorem RollI.below (h : RollI w wb rb kb R K cv wr) (hb : Below wr.heap.size wr u) : RollI w wb rb kb R K cv u := by
  refine ⟨h.pw.below hb, h.rh.below hb, h.kh.below hb, h.mR, h.mK, h.bel.trans (hb.mono h.bel.size), h.ge, h.ne, ?_⟩
  rcases h.cl with e | ⟨cb, e, hp, h1⟩
  · exact .inl e
  · exact .inr ⟨cb, e, hp.below hb, h1⟩
theorem RollI.step (h : RollI w wb rb kb R K cv wr) (hp : Pw wb R' u) (hr : Rh rb R' u) (hm : R'.May) (hf : Fr (fun k => k = wb ∨ k = rb) wr u) : RollI w wb rb kb R' K cv u := by
  refine ⟨hp, hr, h.kh.fr hf (fun e => e.elim (fun e => h.ne.2.1 e.symm) (fun e => h.ne.2.2 e.symm)), hm, h.mK, Fr.toBelow h.bel hf (fun k e => e.elim (fun e => by subst e; exact h.ge.1) (fun e => by subst e; exact h.ge.2.1)) (Nat.le_refl _), h.ge, h.ne, ?_⟩
  rcases h.cl with e | ⟨cb, e, hp, h1, h2, h3, h4⟩
  · exact .inl e
  · exact .inr ⟨cb, e, hp.fr hf (fun e => e.elim h2 h3), h1, h2, h3, h4⟩
/-- Four cells, written. -/
def put4 (kb : Nat) (R : Wh) (u : World) : World := (((u.setCell ⟨kb, 0, none⟩ (.int .i64 R.x)).setCell ⟨kb, 1, none⟩ (.int .i64 R.y)).setCell ⟨kb, 2, none⟩ (.int .i64 R.q)).setCell ⟨kb, 3, none⟩ (.int .u8 R.b)
theorem put4_fr (u : World) : Fr (fun k => k = kb) u (put4 kb R u) := by
  unfold put4
  refine Fr.setCell ?_ _ _ (fun _ => rfl)
  refine Fr.setCell ?_ _ _ (fun _ => rfl)
  refine Fr.setCell ?_ _ _ (fun _ => rfl)
  refine Fr.setCell ?_ _ _ (fun _ => rfl)
  exact Fr.refl _ _
theorem put4_at (h : Rh kb K u) : Rh kb R (put4 kb R u) := by
  obtain ⟨h0, h1, h2, h3, f⟩ := h
  have hlt := klt h0
  unfold put4
  refine ⟨by go_simp, by go_simp, by go_simp, by go_simp, fun i hi => ?_⟩
  simp only [World.frozen?_setCell]
  exact f i hi
/-- Behind Clone, and the copy. -/
theorem RollI.made (h : RollI w wb rb kb R K cv wr) {cb : Nat} (hb : Below wr.heap.size wr u) (hp : Pw cb R u) (hc : wr.heap.size ≤ cb) : RollI w wb rb kb R R (.pointer (some ⟨cb, 0, none⟩)) (put4 kb R u) := by
  have hu := h.below hb
  have hf : Fr (fun k => k = kb) u (put4 kb R u) := put4_fr u
  have l1 := h.pw.lt
  have l2 := h.rh.lt
  have l3 := h.kh.lt
  have hz := h.bel.size
  have hn : cb ≠ kb := by omega
  exact ⟨hu.pw.fr hf (fun e => h.ne.2.1 e), hu.rh.fr hf (fun e => h.ne.2.2 e), put4_at hu.kh, h.mR, h.mR, Fr.toBelow hu.bel hf (fun k e => by subst e; exact h.ge.2.2) (Nat.le_refl _), h.ge, h.ne,
    .inr ⟨cb, rfl, hp.fr hf hn, by omega, by omega, by omega, hn⟩⟩
end
theorem wrS_may {R : Wh} (h : R.May) (reg v t : Int) (hv : 0 ≤ v ∧ v ≤ 255) : (wrS R reg v t).May := by
  unfold wrS
  split
  · exact rollW_may h hv
  · exact h
theorem sameW_refl (R : Wh) : sameW R R = true := by unfold sameW; simp
end Go.Proofs.Ytkabpnchfhkhgaa
