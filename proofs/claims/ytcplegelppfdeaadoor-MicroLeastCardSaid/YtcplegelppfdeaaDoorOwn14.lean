/-
  Layer 14's laws: MicroOwn.
-/
import Derived.Test.YtcplegelppfdeaaDoorMicroK14
import Derived.Test.YtcplegelppfdeaaDoorAbove
set_option linter.unusedSimpArgs false
set_option linter.unusedVariables false
namespace Go.Proofs.YtcplegelppfdeaaDoor
open Go.RowKit Go.PlainAid

theorem flat_nE (l : List Int) : l.flatMap nE = l.map (fun x => .int .i64 x) := by
  induction l with
  | nil => rfl
  | cons x r ih => rw [List.flatMap_cons, ih]; rfl
/-- A number of a row, written. -/
theorem rown_set {W : World} {B g n c j : Nat} {T : TypeId} {ys : List Int} (h : W.ownsRow B T 1 (.slice (some ⟨g, 0, none⟩) n c) n (ys.flatMap nE)) (z : Int) : (W.setCell ⟨g, j, none⟩ (.int .i64 z)).ownsRow B T 1 (.slice (some ⟨g, 0, none⟩) n c) n ((ys.set j z).flatMap nE) := by
  have := (h.stored j (.int .i64 z)).1
  rw [flat_nE] at this
  rw [flat_nE, List.map_set]
  exact this
theorem rown_some {W : World} {B n k : Nat} {T : TypeId} {p : Option Addr} {c : Nat} {xs : List Value} (h : W.ownsRow B T k (.slice p n c) n xs) (hn : 0 < n) : ∃ g, p = some ⟨g, 0, none⟩ := by
  rcases h.2 with ⟨_, e⟩ | ⟨g, cap, cur, e, _⟩
  · omega
  · exact ⟨g, (Value.slice.inj e).1⟩
theorem rown_get {W : World} {B g n c j : Nat} {T : TypeId} {ys : List Int} (h : W.ownsRow B T 1 (.slice (some ⟨g, 0, none⟩) n c) n (ys.flatMap nE)) (hj : j < n) : ∃ y : Int, W.cell? ⟨g, j, none⟩ = some (.int .i64 y) := by
  have h1 := h.cellAt j (by omega)
  have hl : ys.length = n := by have := h.1; rw [flat_len8 nE_len] at this; omega
  rw [flat_nE, List.getElem?_map, List.getElem?_eq_getElem (by omega)] at h1
  exact ⟨_, h1⟩
theorem holds_flatN {w : World} {l : List Int} {g o' : Nat} (hc : ∀ j (x : Int), l[j]? = some x → ∀ i u, (nE x)[i]? = some u → w.cell? ⟨g, o' + j * 1 + i, none⟩ = some u) :
    ∀ j u, (l.flatMap nE)[j]? = some u → w.cell? ((⟨g, o', none⟩ : Addr).add j) = some u := by
  intro j u hu
  rw [flat_nE, List.getElem?_map] at hu
  cases hx : l[j]? with
  | none => rw [hx] at hu; cases hu
  | some x =>
    rw [hx] at hu
    have := hc j x hx 0 u hu
    rw [Addr.add_lit]
    rw [Nat.mul_one, Nat.add_zero] at this
    exact this
/-- An append of numbers, wherever they lie, to nothing. -/
theorem wpList_append_n {P : Program} (w : World) {ops : Array Oper} {rest : List Oper} {o : Oper} {a : Act} {Q : Exit → Act → World → Prop} (hgd : o.guard = none) (s x : Operand) (t : TypeId)
    (ho : o.op = .call { callee := .builtin .append, args := #[s, x], argTypes := #[t, t] })
    (e : TypeId) (i : TypeInfo) (z : Value) (bytes : Nat) (ht : P.underlying t = some (.slice e)) (hi : P.info? e = some i) (hz : i.zero = some z)
    (hsize : i.size = 1) (hby : i.bytes = bytes) (hzs : z.cells.size = 1) (hs : a.eval s = .slice none 0 0) (l : List Int) (X : Value) (hx : a.eval x = X) (hX : HoldsW nE 1 w X l)
    (h63 : l.length ≤ maxLen) (hbytes : l.length * bytes ≤ 140737488355328)
    (h : ∀ v' w', w'.ownsRow w.heap.size e 1 v' l.length (l.flatMap nE) → Below w.heap.size w w' → wpList P ops Q rest (a.put o.dst v') w') : wpList P ops Q (o :: rest) a w := by
  obtain ⟨p, c, rfl⟩ := hX.form
  cases p with
  | none =>
    have h0 : l = [] := by
      rcases hX with ⟨_, e⟩ | ⟨g, o', cap, e, _⟩
      · exact e
      · cases e
    subst h0
    refine wpList_plain hgd fun K hK => ?_
    have hr : (Builtin.append_ #[t, t] o.type #[.slice none 0 0, .slice none 0 c]).run P w = .ok (.slice none 0 0) w := by
      simp [Builtin.append_, run_underlying ht, sizeOf, typeInfo, hi, Builtin.lenOf, Builtin.firstCells, loadCells, loadCellsFrom]
    unfold Oper.wp execOp
    simp only [ho, resolve, invoke, builtin, Sem.run_bind, Sem.run_pure, Result.andThen_ok, List.map_toArray, List.map_cons, List.map_nil, hs, hx]
    dsimp only [List.length_nil] at *
    rw [hr]
    exact hK _ _ (h _ w (World.ownsRow_nil _ _ _ _) (Below.refl _ _))
  | some ad =>
    obtain ⟨g, o', sp⟩ := ad
    have hsx : ∀ j u, (l.flatMap nE)[j]? = some u → w.cell? ((⟨g, o', sp⟩ : Addr).add j) = some u := by
      rcases hX with ⟨_, e⟩ | ⟨g', o'', cap, e, _, hc⟩
      · subst e; intro j u hu; simp at hu
      · injection e with e1 e2 e3
        injection e1 with e1
        cases e1
        exact holds_flatN hc
    refine wpList_append_own _ hgd s x t ho w.heap.size e i z 1 bytes ht hi hz hsize hby hzs (by decide) _ 0 [] hs (World.ownsRow_nil _ _ _ _) ⟨g, o', sp⟩ l.length c (l.flatMap nE) hx (by rw [flat_len8 nE_len]) hsx (one_cells8 nE_one _) (by omega) (by rw [Nat.zero_add]; exact hbytes) (Nat.le_refl _) ?_
    intro v' w' h1 h2 _
    rw [Nat.zero_add, List.nil_append] at h1
    exact h v' w' h1 (Below.grown (Below.refl _ _) h2 (Nat.le_refl _) (fun k hk => by cases hk))
end Go.Proofs.YtcplegelppfdeaaDoor
