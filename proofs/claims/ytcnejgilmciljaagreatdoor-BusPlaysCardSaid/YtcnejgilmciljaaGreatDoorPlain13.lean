/-
  Layer 13's laws: the document's bus of a setup.
-/
import Derived.Test.YtcnejgilmciljaaGreatDoorMade13
import Derived.Test.YtcnejgilmciljaaGreatDoorEqArr
import Derived.Test.YtcnejgilmciljaaGreatDoorCorr8
import Derived.Test.YtcnejgilmciljaaGreatDoorDbl13
set_option linter.unusedSimpArgs false
set_option linter.unusedVariables false
namespace Go.Proofs.YtcnejgilmciljaaGreatDoor
open Go.RowKit Go.PlainAid

/-- An append of bytes, wherever they lie, to nothing. -/
theorem wpList_append_p {P : Program} (w : World) {ops : Array Oper} {rest : List Oper} {o : Oper} {a : Act} {Q : Exit → Act → World → Prop} (hgd : o.guard = none) (s x : Operand) (t : TypeId)
    (ho : o.op = .call { callee := .builtin .append, args := #[s, x], argTypes := #[t, t] })
    (e : TypeId) (i : TypeInfo) (z : Value) (bytes : Nat) (ht : P.underlying t = some (.slice e)) (hi : P.info? e = some i) (hz : i.zero = some z)
    (hsize : i.size = 1) (hby : i.bytes = bytes) (hzs : z.cells.size = 1) (hs : a.eval s = .slice none 0 0) (l : List Int) (X : Value) (hx : a.eval x = X) (hX : HoldsW bE 1 w X l)
    (h63 : l.length ≤ maxLen) (hbytes : l.length * bytes ≤ 140737488355328)
    (h : ∀ v' w', w'.ownsRow w.heap.size e 1 v' l.length (l.flatMap bE) → Below w.heap.size w w' → wpList P ops Q rest (a.put o.dst v') w') : wpList P ops Q (o :: rest) a w := by
  obtain ⟨p, c, rfl⟩ := hX.form
  cases p with
  | none =>
    have h0 : l = [] := by
      rcases hX with ⟨_, e⟩ | ⟨g, o', cap, e, _⟩
      · exact e
      · cases e
    subst h0
    refine wpList_plain hgd fun K hK => ?_
    have hr : (Builtin.append_ #[t, t] o.type #[.slice none 0 0, .slice none 0 c]).run P w = .ok (.slice none 0 0) w := by
      simp [Builtin.append_, run_underlying ht, sizeOf, typeInfo, hi, Builtin.lenOf, Builtin.firstCells, loadCells, loadCellsFrom]
    unfold Oper.wp execOp
    simp only [ho, resolve, invoke, builtin, Sem.run_bind, Sem.run_pure, Result.andThen_ok, List.map_toArray, List.map_cons, List.map_nil, hs, hx]
    dsimp only [List.length_nil] at *
    rw [hr]
    exact hK _ _ (h _ w (World.ownsRow_nil _ _ _ _) (Below.refl _ _))
  | some ad =>
    obtain ⟨g, o', sp⟩ := ad
    have hsx : ∀ j u, (l.flatMap bE)[j]? = some u → w.cell? ((⟨g, o', sp⟩ : Addr).add j) = some u := by
      rcases hX with ⟨_, e⟩ | ⟨g', o'', cap, e, _, hc⟩
      · subst e; intro j u hu; simp at hu
      · injection e with e1 e2 e3
        injection e1 with e1
        cases e1
        exact holds_flat bE_len (by omega) hc
    refine wpList_append_own _ hgd s x t ho w.heap.size e i z 1 bytes ht hi hz hsize hby hzs (by decide) _ 0 [] hs (World.ownsRow_nil _ _ _ _) ⟨g, o', sp⟩ l.length c (l.flatMap bE) hx (by rw [flat_len8 bE_len]) hsx (one_cells8 bE_one _) (by omega) (by rw [Nat.zero_add]; exact hbytes) (Nat.le_refl _) ?_
    intro v' w' h1 h2 _
    rw [Nat.zero_add, List.nil_append] at h1
    exact h v' w' h1 (Below.grown (Below.refl _ _) h2 (Nat.le_refl _) (fun k hk => by cases hk))
/-- A new block of the document's. -/
def dbA (T : Tm) (x y : Value) : Array Value := #[.slice none 0 0, .int .i64 T.l, .int .i64 T.c, .bool T.r, .bool T.a, .bool T.s, .bool T.g, x, y, .slice none 0 0, .slice none 0 0, .slice none 0 0, .slice none 0 0, .int .i64 0, .int .i64 0, .int .i64 0, .int .u8 0, .int .i64 0]
/-- A chunk more: what the document puts. -/
def ckL (L : List Pt) (x : Ck) : List Pt :=
  if (loadP L x.a x.l).1 = 0 ∧ 0 < x.l.length then (labelP (loadP L x.a x.l).2 x.a (x.a + x.l.length - 1) x.t).2 else (loadP L x.a x.l).2
def cksL : List Ck → List Pt → List Pt
  | [], L => L
  | x :: r, L => cksL r (ckL L x)
def suL (s : Su) : List Pt := cksL s.cs []
def suD (s : Su) : Bd := ⟨suL s, s.T, ⟨s.pub, s.sec, [], [], [], []⟩, wh0, 0⟩
/-- What the loop over chunks knows: but for memory the block stands as it was made. -/
structure PlainI (nb rb : Nat) (w u0 : World) (L : List Pt) (v : Value) (u : World) : Prop where
  m : Rm rb (rb + 1) u L v
  k : Kp rb (rb + 1) u0 u
  b : Below w.heap.size w u
section
variable {P : Program} {ops : Array Oper} {S : Bool → World → Prop} {K : Act → Prop} {o : Oper} {r : List Oper} {a : Act} {kx m : Nat}
/-- It is left out. -/
theorem PlanX.no (hmk : m ≠ kx) (hw : Region.wanted o (yielded ops a.tmps) = false) (h : PlanX (OwesX P ops S kx) K (m + 1) r (a.put o.dst undef)) : PlanX (OwesX P ops S kx) K m (o :: r) a :=
  ⟨undef, fun b _ => by
    rw [show decide (m = kx) = false from decide_eq_false hmk, Bool.or_false]
    exact .inr ⟨hw, rfl, fun w hS => hS⟩, h⟩
end
theorem dbA_size (T : Tm) (x y : Value) : (dbA T x y).size = 18 := rfl
/-- A new block of the document's bus. -/
theorem plain_new {W : World} (T : Tm) (x y : Value) (ty : TypeId) {w : World} {nb : Nat} (hw : w.heap.size ≤ W.heap.size) (hb : Below w.heap.size w W) :
    PlainI nb W.heap.size w (W.alloc (.cells (dbA T x y) ty)) [] (.slice none 0 0) (W.alloc (.cells (dbA T x y) ty)) ∧
    (∀ i v, (dbA T x y)[i]? = some v → (W.alloc (.cells (dbA T x y) ty)).cell? ⟨W.heap.size, i, none⟩ = some v) ∧ ∀ i, (W.alloc (.cells (dbA T x y) ty)).frozen? ⟨W.heap.size, i, none⟩ = false := by
  have hc : ∀ i v, (dbA T x y)[i]? = some v → (W.alloc (.cells (dbA T x y) ty)).cell? ⟨W.heap.size, i, none⟩ = some v := fun i v hv => by
    rw [cell_of_row _ _ _ _ _ _ (heap_alloc_new W (.cells (dbA T x y) ty))]; exact hv
  have hf : ∀ i, (W.alloc (.cells (dbA T x y) ty)).frozen? ⟨W.heap.size, i, none⟩ = false := fun i => frozen_of_row _ _ _ _ _ (heap_alloc_new W (.cells (dbA T x y) ty))
  refine ⟨⟨⟨hc 0 _ rfl, World.ownsRow_nil _ _ _ _, hf 0, Nat.lt_succ_self _, by simp⟩, Kp.of_below (Below.refl _ _) (Nat.lt_succ_self _) (by simp), Below.alloc hb hw _⟩, hc, hf⟩
/-- At the end: the document's bus. -/
theorem plain_end {nb rb : Nat} {w u0 u : World} {L : List Pt} {m x y : Value} {T : Tm} {pub sec : List Int} (h : PlainI nb rb w u0 L m u) (hc : ∀ i v, (dbA T x y)[i]? = some v → u0.cell? ⟨rb, i, none⟩ = some v) (hf : ∀ i, u0.frozen? ⟨rb, i, none⟩ = false)
    (hx : HoldsW bE 1 u0 x pub) (hy : HoldsW bE 1 u0 y sec) (hx2 : pub ≠ [] → ∀ b, x.ownBlock = some b → b < rb) (hy2 : sec ≠ [] → ∀ b, y.ownBlock = some b → b < rb) :
    Dbus rb ⟨L, T, ⟨pub, sec, [], [], [], []⟩, wh0, 0⟩ m x y (.slice none 0 0) (.slice none 0 0) (.slice none 0 0) (.slice none 0 0) u := by
  have hm := h.m
  have hlt : rb < u.heap.size := klt hm.c0
  have hr : ∀ i v, i ≠ 0 → (dbA T x y)[i]? = some v → u.cell? ⟨rb, i, none⟩ = some v ∧ u.frozen? ⟨rb, i, none⟩ = false := fun i v hi hv => ⟨((h.k.rest i hi).1).trans (hc i v hv), ((h.k.rest i hi).2).trans (hf i)⟩
  have hmo : ∀ b, m.ownBlock = some b → rb < b := fun b hb => (hm.ow.lt b hb).1
  have hfr : Fr (fun k => rb ≤ k) u0 u := ⟨h.k.below.os, h.k.below.tape, h.k.below.output, h.k.below.size, fun b hb hn => h.k.keep b (by omega) (by omega)⟩
  have hfoot : ∀ k, foot rb (rB L m ⟨pub, sec, [], [], [], []⟩ (.slice none 0 0) (.slice none 0 0) (.slice none 0 0) (.slice none 0 0)) k → rb ≤ k := fun k hk => by
    rcases hk with rfl | ⟨r, hr, hk⟩
    · exact Nat.le_refl _
    · simp only [rB, List.mem_cons, List.mem_nil_iff, or_false] at hr
      rcases hr with rfl | rfl | rfl | rfl | rfl
      · exact Nat.le_of_lt (hmo k hk)
      all_goals simp [Value.ownBlock] at hk
  refine ⟨⟨⟨hlt, fun i r hi => ?_, fun i r hi => ?_, fun i j r s hi hj hij => ?_⟩, ⟨(hr 7 _ (by decide) rfl).1, (hr 7 _ (by decide) rfl).2, ?_, fun hl k hk hf' => ?_⟩, ⟨(hr 8 _ (by decide) rfl).1, (hr 8 _ (by decide) rfl).2, ?_, fun hl k hk hf' => ?_⟩⟩, ?_, ?_, ?_⟩
  · match i, hi with
    | 0, hi => cases hi; exact ⟨hm.c0, hm.fr⟩
    | 1, hi => cases hi; exact hr 9 _ (by decide) rfl
    | 2, hi => cases hi; exact hr 10 _ (by decide) rfl
    | 3, hi => cases hi; exact hr 11 _ (by decide) rfl
    | 4, hi => cases hi; exact hr 12 _ (by decide) rfl
    | n + 5, hi => simp [rB] at hi
  · match i, hi with
    | 0, hi => cases hi; exact ⟨own_low hm.ow (Nat.zero_le _), fun e => by have := hmo rb e; omega⟩
    | 1, hi => cases hi; exact ⟨World.ownsRow_nil _ _ _ _, by simp [Value.ownBlock]⟩
    | 2, hi => cases hi; exact ⟨World.ownsRow_nil _ _ _ _, by simp [Value.ownBlock]⟩
    | 3, hi => cases hi; exact ⟨World.ownsRow_nil _ _ _ _, by simp [Value.ownBlock]⟩
    | 4, hi => cases hi; exact ⟨World.ownsRow_nil _ _ _ _, by simp [Value.ownBlock]⟩
    | n + 5, hi => simp [rB] at hi
  · have hoff : ∀ (i : Nat) (r : Rw), (rB L m ⟨pub, sec, [], [], [], []⟩ (.slice none 0 0) (.slice none 0 0) (.slice none 0 0) (.slice none 0 0))[i]? = some r → (i = 0 ∧ r.off = 0) ∨ (0 < i ∧ r.off = i + 8 ∧ r.v = .slice none 0 0) := fun i r hr => by
      match i, hr with
      | 0, hr => cases hr; exact .inl ⟨rfl, rfl⟩
      | 1, hr => cases hr; exact .inr ⟨by omega, rfl, rfl⟩
      | 2, hr => cases hr; exact .inr ⟨by omega, rfl, rfl⟩
      | 3, hr => cases hr; exact .inr ⟨by omega, rfl, rfl⟩
      | 4, hr => cases hr; exact .inr ⟨by omega, rfl, rfl⟩
      | n + 5, hr => simp [rB] at hr
    have h1 := hoff i r hi
    have h2 := hoff j s hj
    refine ⟨by omega, fun k hk hk2 => ?_⟩
    rcases h1 with h1 | h1
    · rcases h2 with h2 | h2
      · omega
      · rw [h2.2.2] at hk2; simp [Value.ownBlock] at hk2
    · rw [h1.2.2] at hk; simp [Value.ownBlock] at hk
  · exact hx.fr hfr (fun hl b hb hle => by have := hx2 hl b hb; omega)
  · have := hx2 hl k hk; have := hfoot k hf'; omega
  · exact hy.fr hfr (fun hl b hb hle => by have := hy2 hl b hb; omega)
  · have := hy2 hl k hk; have := hfoot k hf'; omega
  · refine ⟨fun i v hv => ?_, fun i hi => ?_⟩
    · match i, hv with
      | 0, hv => cases hv; exact (hr 1 _ (by decide) rfl).1
      | 1, hv => cases hv; exact (hr 2 _ (by decide) rfl).1
      | 2, hv => cases hv; exact (hr 3 _ (by decide) rfl).1
      | 3, hv => cases hv; exact (hr 4 _ (by decide) rfl).1
      | 4, hv => cases hv; exact (hr 5 _ (by decide) rfl).1
      | 5, hv => cases hv; exact (hr 6 _ (by decide) rfl).1
      | n + 6, hv => simp [tmV] at hv
    · match i, hi with
      | 0, _ => exact (hr 1 _ (by decide) rfl).2
      | 1, _ => exact (hr 2 _ (by decide) rfl).2
      | 2, _ => exact (hr 3 _ (by decide) rfl).2
      | 3, _ => exact (hr 4 _ (by decide) rfl).2
      | 4, _ => exact (hr 5 _ (by decide) rfl).2
      | 5, _ => exact (hr 6 _ (by decide) rfl).2
      | n + 6, h => omega
  · exact ⟨(hr 13 _ (by decide) rfl).1, (hr 14 _ (by decide) rfl).1, (hr 15 _ (by decide) rfl).1, (hr 16 _ (by decide) rfl).1, (hr 13 _ (by decide) rfl).2, (hr 14 _ (by decide) rfl).2, (hr 15 _ (by decide) rfl).2, (hr 16 _ (by decide) rfl).2⟩
  · exact ⟨(hr 17 _ (by decide) rfl).1, (hr 17 _ (by decide) rfl).2⟩
end Go.Proofs.YtcnejgilmciljaaGreatDoor
