/-
  Things that lie in several blocks: which blocks a call may write; a struct whose slices lie in rows of their own; what an append to one of them leaves.
-/
import Derived.Test.YtcplegelppfdeaaDoorEnts
set_option linter.unusedSimpArgs false
set_option linter.unusedVariables false
namespace Go.Proofs.YtcplegelppfdeaaDoor
open Go.RowKit Go.PlainAid

/-- Of what stood there only blocks of F have been written. -/
structure Fr (F : Nat → Prop) (w u : World) : Prop where
  os : u.os = w.os
  tape : u.tape = w.tape
  output : u.output = w.output
  size : w.heap.size ≤ u.heap.size
  keep : ∀ b, b < w.heap.size → ¬ F b → u.heap[b]? = w.heap[b]?
section
variable {F G : Nat → Prop} {w u v : World}
theorem Fr.refl (F : Nat → Prop) (w : World) : Fr F w w := ⟨rfl, rfl, rfl, Nat.le_refl _, fun _ _ _ => rfl⟩
/-- One behind the other: what the second one writes was the first one's to write, or is new. -/
theorem Fr.trans (h : Fr F w u) (k : Fr G u v) (hg : ∀ b, b < w.heap.size → G b → F b) : Fr F w v :=
  ⟨k.os.trans h.os, k.tape.trans h.tape, k.output.trans h.output, Nat.le_trans h.size k.size, fun b hb hn => (k.keep b (Nat.lt_of_lt_of_le hb h.size) (fun g => hn (hg b hb g))).trans (h.keep b hb hn)⟩
theorem Fr.mono (h : Fr F w u) (hg : ∀ b, b < w.heap.size → F b → G b) : Fr G w u := ⟨h.os, h.tape, h.output, h.size, fun b hb hn => h.keep b hb (fun f => hn (hg b hb f))⟩
theorem Fr.ofBelow (h : Below w.heap.size w u) : Fr F w u := ⟨h.os, h.tape, h.output, h.size, fun b hb _ => h.block b hb⟩
theorem Fr.ofGrown {g : Option Nat} (h : w.grownBy u g) (hg : ∀ b, b < w.heap.size → g = some b → F b) : Fr F w u :=
  ⟨h.os, h.tape, h.output, h.size, fun b hb hn => h.block b hb (fun e => hn (hg b hb e.symm))⟩
theorem Fr.setCell (h : Fr F w u) (p : Addr) (x : Value) (hp : p.block < w.heap.size → F p.block) : Fr F w (u.setCell p x) :=
  ⟨h.os, h.tape, h.output, by rw [World.size_setCell]; exact h.size, fun b hb hn => (heap_setCell_other u p b x (fun e => hn (e ▸ hp (e ▸ hb)))).trans (h.keep b hb hn)⟩
theorem Fr.alloc (h : Fr F w u) (o : Obj) : Fr F w (u.alloc o) :=
  h.trans (G := fun _ => False) (Fr.ofBelow ((Below.refl _ _).alloc (Nat.le_refl _) _)) (fun _ _ f => f.elim)
theorem Fr.below (h : Fr F w u) {N : Nat} (hF : ∀ b, F b → N ≤ b) (hN : N ≤ w.heap.size) : Below N w u :=
  ⟨h.os, h.tape, h.output, h.size, fun b hb => h.keep b (by omega) (fun f => by have := hF b f; omega)⟩
theorem Fr.toBelow {N : Nat} {w0 : World} (h0 : Below N w0 w) (h : Fr F w u) (hF : ∀ b, F b → N ≤ b) (hN : N ≤ w0.heap.size) : Below N w0 u :=
  h0.trans (h.below hF (Nat.le_trans hN h0.size))
theorem Fr.cell (h : Fr F w u) {b o : Nat} {x : Value} (hc : w.cell? ⟨b, o, none⟩ = some x) (hn : ¬ F b) : u.cell? ⟨b, o, none⟩ = some x :=
  (World.cell?_of_block (h.keep b (klt hc) hn)).trans hc
theorem Fr.frozen (h : Fr F w u) {b o : Nat} (hb : b < w.heap.size) (hc : w.frozen? ⟨b, o, none⟩ = false) (hn : ¬ F b) : u.frozen? ⟨b, o, none⟩ = false :=
  (World.frozen?_of_block (h.keep b hb hn)).trans hc
theorem Fr.row (h : Fr F w u) {B n k : Nat} {T : TypeId} {x : Value} {xs : List Value} (ho : w.ownsRow B T k x n xs) (hn : ∀ b, x.ownBlock = some b → ¬ F b) : u.ownsRow B T k x n xs := by
  refine ⟨ho.1, ?_⟩
  rcases ho.2 with h2 | ⟨g, cap, cur, rfl, h2, h3, r⟩
  · exact .inl h2
  · exact .inr ⟨g, cap, cur, rfl, h2, (h.keep g (Array.getElem?_eq_some_iff.1 h3).1 (hn g rfl)).trans h3, r⟩
end
section
variable {α : Type} {enc : α → List Value} {k : Nat}
theorem HoldsW.fr {F : Nat → Prop} {w u : World} {v : Value} {l : List α} (h : HoldsW enc k w v l) (hf : Fr F w u) (hn : l ≠ [] → ∀ b, v.ownBlock = Option.some b → ¬ F b) : HoldsW enc k u v l := by
  rcases h with h | ⟨g, o, cap, rfl, hc, h⟩
  · exact .inl h
  · refine .inr ⟨g, o, cap, rfl, hc, fun j x hx i y hy => hf.cell (h j x hx i y hy) (hn (by intro e; subst e; simp at hx) g rfl)⟩
end
/-- A slice in a struct: at which cell; of which type, how wide and how many its elements are; its cells; itself. -/
structure Rw where
  off : Nat
  T : TypeId
  k : Nat
  n : Nat
  xs : List Value
  v : Value
/-- The blocks of a struct and of its slices' rows. -/
def foot (rb : Nat) (R : List Rw) (b : Nat) : Prop := b = rb ∨ ∃ r ∈ R, r.v.ownBlock = some b
/-- A struct at rb whose slices lie in rows of their own, no two in one. -/
structure Hold (rb : Nat) (R : List Rw) (w : World) : Prop where
  lt : rb < w.heap.size
  cell : ∀ (i : Nat) (r : Rw), R[i]? = some r → w.cell? ⟨rb, r.off, none⟩ = some r.v ∧ w.frozen? ⟨rb, r.off, none⟩ = false
  own : ∀ (i : Nat) (r : Rw), R[i]? = some r → w.ownsRow 0 r.T r.k r.v r.n r.xs ∧ r.v.ownBlock ≠ some rb
  sep : ∀ (i j : Nat) (r s : Rw), R[i]? = some r → R[j]? = some s → i ≠ j → r.off ≠ s.off ∧ ∀ b, r.v.ownBlock = some b → s.v.ownBlock ≠ some b
theorem Hold.foot_lt {rb : Nat} {R : List Rw} {w : World} (h : Hold rb R w) {b : Nat} (hb : foot rb R b) : b < w.heap.size := by
  rcases hb with rfl | ⟨r, hr, he⟩
  · exact h.lt
  · obtain ⟨i, hi, rfl⟩ := List.mem_iff_getElem.1 hr
    exact ((h.own i _ (List.getElem?_eq_getElem hi)).1.lt b he).2
theorem Hold.fr {rb : Nat} {R : List Rw} {w u : World} {F : Nat → Prop} (h : Hold rb R w) (hf : Fr F w u) (hd : ∀ b, foot rb R b → ¬ F b) : Hold rb R u :=
  ⟨Nat.lt_of_lt_of_le h.lt hf.size, fun i r hr => ⟨hf.cell (h.cell i r hr).1 (hd rb (.inl rfl)), hf.frozen h.lt (h.cell i r hr).2 (hd rb (.inl rfl))⟩,
    fun i r hr => ⟨hf.row (h.own i r hr).1 (fun b hb => hd b (.inr ⟨r, List.mem_of_getElem? hr, hb⟩)), (h.own i r hr).2⟩, h.sep⟩
theorem Hold.below {rb : Nat} {R : List Rw} {w u : World} (h : Hold rb R w) (hb : Below w.heap.size w u) : Hold rb R u := h.fr (F := fun _ => False) (Fr.ofBelow hb) (fun _ _ f => f)
/-- What a call leaves that worked on such a struct: R's slices have become R''s. -/
structure Hq (rb : Nat) (R R' : List Rw) (w u : World) : Prop where
  hold : Hold rb R' u
  fr : Fr (foot rb R) w u
  ft : ∀ b, foot rb R' b → foot rb R b ∨ w.heap.size ≤ b
  old : ∀ (i : Nat) (r : Rw), R[i]? = some r → ∀ b j, r.v.ownBlock = some b → j < r.n * r.k → u.cell? ⟨b, j, none⟩ = w.cell? ⟨b, j, none⟩
  at_ : ∀ o, (∀ (i : Nat) (r : Rw), R[i]? = some r → r.off ≠ o) → u.cell? ⟨rb, o, none⟩ = w.cell? ⟨rb, o, none⟩ ∧ u.frozen? ⟨rb, o, none⟩ = w.frozen? ⟨rb, o, none⟩
  len : R'.length = R.length
  up : ∀ (i : Nat) (r r' : Rw), R[i]? = some r → R'[i]? = some r' → r'.off = r.off ∧ r'.T = r.T ∧ r'.k = r.k ∧ ∀ b, r.v.ownBlock = some b → (r'.v.ownBlock = some b ∧ r.n ≤ r'.n) ∨ ¬ foot rb R' b
theorem Hq.refl {rb : Nat} {R : List Rw} {w : World} (h : Hold rb R w) : Hq rb R R w w := ⟨h, Fr.refl _ _, fun _ h => .inl h, fun _ _ _ _ _ _ _ => rfl, fun _ _ => ⟨rfl, rfl⟩, rfl, fun i r r' h1 h2 => by
    obtain rfl : r = r' := Option.some.inj (h1.symm.trans h2)
    exact ⟨rfl, rfl, rfl, fun b hb => .inl ⟨hb, Nat.le_refl _⟩⟩⟩
theorem Hq.below {rb : Nat} {R R' : List Rw} {w u v : World} (h : Hq rb R R' w u) (hlt : Hold rb R w) (hb : Below u.heap.size u v) : Hq rb R R' w v :=
  ⟨h.hold.below hb, h.fr.trans (G := fun _ => False) (Fr.ofBelow hb) (fun _ _ f => f.elim), h.ft, fun i r hr b j hbj hj => by
      rw [← h.old i r hr b j hbj hj]
      exact hb.cell (p := ⟨b, j, none⟩) (Nat.lt_of_lt_of_le (((hlt.own i r hr).1.lt b hbj).2) h.fr.size),
    fun o ho => ⟨(hb.cell (p := ⟨rb, o, none⟩) h.hold.lt).trans (h.at_ o ho).1, (hb.frozen (p := ⟨rb, o, none⟩) h.hold.lt).trans (h.at_ o ho).2⟩, h.len, h.up⟩
/-- A store into one of the struct's other cells. -/
theorem Hq.put {rb : Nat} {R R' : List Rw} {w u : World} (h : Hq rb R R' w u) (hlt : Hold rb R w) (o : Nat) (x : Value) (ho : ∀ (i : Nat) (r : Rw), R'[i]? = some r → r.off ≠ o) :
    Hold rb R' (u.setCell ⟨rb, o, none⟩ x) ∧ Fr (foot rb R) w (u.setCell ⟨rb, o, none⟩ x) := by
  have hne : ∀ (i : Nat) (r : Rw), R'[i]? = some r → (⟨rb, o, none⟩ : Addr) ≠ ⟨rb, r.off, none⟩ := fun i r hr e => by
    have := congrArg Addr.off e
    exact ho i r hr this.symm
  refine ⟨⟨by rw [World.size_setCell]; exact h.hold.lt, fun i r hr => ⟨?_, by rw [World.frozen?_setCell]; exact (h.hold.cell i r hr).2⟩, fun i r hr => ⟨?_, (h.hold.own i r hr).2⟩, h.hold.sep⟩, h.fr.setCell _ _ (fun _ => .inl rfl)⟩
  · rw [World.cell?_setCell_other _ _ _ _ (hne i r hr)]; exact (h.hold.cell i r hr).1
  · have hr2 := (h.hold.own i r hr)
    refine ⟨hr2.1.1, ?_⟩
    rcases hr2.1.2 with h2 | ⟨g, cap, cur, e, h2, h3, r'⟩
    · exact .inl h2
    · refine .inr ⟨g, cap, cur, e, h2, (heap_setCell_other u ⟨rb, o, none⟩ g x (fun eg => ?_)).trans h3, r'⟩
      apply hr2.2
      rw [e]
      exact congrArg some eg
/-- An append's end: it lies where it lay, its cells as they were; or in a new block, all else as it was. -/
def Grew (w u : World) (v v' : Value) : Prop := w.grownBy u v.ownBlock ∧ (v'.ownBlock = v.ownBlock ∨ v'.ownBlock = some w.heap.size ∧ Below w.heap.size w u)
theorem run_append_f {P : Program} (w : World) (t ty e : TypeId) (i : TypeInfo) (z : Value) (size bytes : Nat) (ht : P.underlying t = some (.slice e)) (hi : P.info? e = some i) (hz : i.zero = some z)
    (hsize : i.size = size) (hby : i.bytes = bytes) (hzs : z.cells.size = size) (hsz : 0 < size)
    (v : Value) (n : Nat) (xs : List Value) (hown : w.ownsRow 0 e size v n xs)
    (a : Addr) (m c : Nat) (news : List Value) (hl : news.length = m * size) (hnews : ∀ j u, news[j]? = some u → w.cell? (a.add j) = some u) (h1 : ∀ u ∈ news, u.oneCell' = true)
    (h63 : n + m ≤ maxLen) (hbytes : (n + m) * bytes ≤ 140737488355328) :
    ∃ v' w', (Builtin.append_ #[t, t] ty #[v, .slice (some a) m c]).run P w = .ok v' w' ∧ w'.ownsRow 0 e size v' (n + m) (xs ++ news) ∧ Grew w w' v v' := by
  obtain ⟨v', w', hr, h2, h3, _, h5⟩ := run_append_own_at (P := P) w 0 t ty e i z size bytes ht hi hz hsize hby hzs hsz v n xs hown a m c news hl hnews h1 h63 hbytes (Nat.zero_le _)
  refine ⟨v', w', hr, h2, h3, ?_⟩
  subst hsize
  subst hby
  have hsmall : n + m ≤ 9223372036854775807 := by simp only [maxLen] at h63; omega
  rcases hown.2 with ⟨rfl, rfl⟩ | ⟨g, cap, cur, rfl, _, hg, hnc, hcm, hcs, htake⟩
  · by_cases hm : m = 0
    · subst hm
      rcases h5 with h5 | h5
      · exact .inl h5
      · exfalso
        have hn : news = [] := List.eq_nil_of_length_eq_zero (by simpa using hl)
        subst hn
        have hr2 : (Builtin.append_ #[t, t] ty #[.slice none 0 0, .slice (some a) 0 c]).run P w = .ok (.slice none 0 0) w := by
          simp [Builtin.append_, run_underlying ht, sizeOf, typeInfo, hi, Builtin.lenOf, Builtin.firstCells, loadCells, loadCellsFrom]
        rw [hr2] at hr
        injection hr with e1 e2
        rw [← e1] at h5
        simp [Value.ownBlock] at h5
    · have hr2 := run_append_nil (P := P) w t ty e i z ht hi hz a m c news hl hnews (by omega) (by omega) (by have hb := hbytes; simp only [Nat.zero_add] at hb; omega)
      rw [hr2] at hr
      injection hr with e1 e2
      refine .inr ⟨by rw [← e1]; rfl, ?_⟩
      rw [← e2]
      exact (Below.drew (Below.refl _ _)).alloc (Nat.le_refl _) _
  · by_cases hroom : n + m ≤ cap
    · have hfit : n * i.size + news.length ≤ cur.size := by rw [hl, hcs, ← Nat.add_mul]; exact Nat.mul_le_mul_right _ hroom
      have hr2 := run_append_room (P := P) w t ty e i ht hi g n cap cur hg a m c news hl hnews h1 hroom hfit
      rw [hr2] at hr
      injection hr with e1 e2
      exact .inl (by rw [← e1]; rfl)
    · have holds : ∀ j u, xs[j]? = some u → w.cell? ((⟨g, 0, none⟩ : Addr).add j) = some u := hown.cells (g := g) rfl
      have hr2 := run_append_grow (P := P) w t ty e i z ht hi hz ⟨g, 0, none⟩ n cap xs hown.1 holds a m c news hl hnews (by omega) (by omega) (growslice_fits (by omega) hbytes)
      rw [hr2] at hr
      injection hr with e1 e2
      refine .inr ⟨by rw [← e1]; rfl, ?_⟩
      rw [← e2]
      exact (Below.drew (Below.refl _ _)).alloc (Nat.le_refl _) _
/-- A slice that grew, and was stored again. -/
theorem Hq.app {rb : Nat} {R : List Rw} {w u w' : World} (h : Hold rb R w) (hb : Below w.heap.size w u) {i : Nat} {r : Rw} (hr : R[i]? = some r) {v' : Value} {n' : Nat} {xs' : List Value}
    (ho : w'.ownsRow 0 r.T r.k v' n' xs') (hn : r.n ≤ n') (hxs : ∀ j, j < r.n * r.k → xs'[j]? = r.xs[j]?) (hg : Grew u w' r.v v') :
    Hq rb R (R.set i ⟨r.off, r.T, r.k, n', xs', v'⟩) w (w'.setCell ⟨rb, r.off, none⟩ v') := by
  have hi : i < R.length := (List.getElem?_eq_some_iff.1 hr).1
  have hrow := h.own i r hr
  have hlt := h.lt
  have hz := hb.size
  have hU := h.below hb
  have hG : Fr (fun b => r.v.ownBlock = some b) u w' := Fr.ofGrown hg.1 (fun b _ e => e)
  have hfr : Fr (foot rb R) w w' := (Fr.ofBelow hb).trans hG (fun b _ e => .inr ⟨r, List.mem_of_getElem? hr, e⟩)
  have hnew : ∀ b, v'.ownBlock = some b → r.v.ownBlock = some b ∨ b = u.heap.size := fun b e => by
    rcases hg.2 with h1 | ⟨h1, _⟩
    · exact .inl (by rw [← h1]; exact e)
    · exact .inr (by rw [h1] at e; exact (Option.some.inj e).symm)
  have hvr : v'.ownBlock ≠ some rb := fun e => by
    rcases hnew rb e with h1 | h1
    · exact hrow.2 h1
    · omega
  have hsetrow : ∀ (x : Value) {B n k : Nat} {T : TypeId} {y : Value} {ys : List Value}, w'.ownsRow B T k y n ys → y.ownBlock ≠ some rb → (w'.setCell ⟨rb, r.off, none⟩ x).ownsRow B T k y n ys := fun x B n k T y ys hy hne => by
    refine ⟨hy.1, ?_⟩
    rcases hy.2 with h2 | ⟨g, cap, cur, e, h2, h3, r'⟩
    · exact .inl h2
    · refine .inr ⟨g, cap, cur, e, h2, (heap_setCell_other w' ⟨rb, r.off, none⟩ g x (fun eg => hne ?_)).trans h3, r'⟩
      rw [e]; exact congrArg some eg
  have hcellrb : ∀ o, w'.cell? ⟨rb, o, none⟩ = w.cell? ⟨rb, o, none⟩ := fun o => by
    have e1 : w'.cell? ⟨rb, o, none⟩ = u.cell? ⟨rb, o, none⟩ := World.cell?_of_block (hG.keep rb (by omega) hrow.2)
    exact e1.trans (hb.cell (p := ⟨rb, o, none⟩) hlt)
  have hfrrb : ∀ o, w'.frozen? ⟨rb, o, none⟩ = w.frozen? ⟨rb, o, none⟩ := fun o => by
    have e1 : w'.frozen? ⟨rb, o, none⟩ = u.frozen? ⟨rb, o, none⟩ := World.frozen?_of_block (hG.keep rb (by omega) hrow.2)
    exact e1.trans (hb.frozen (p := ⟨rb, o, none⟩) hlt)
  have hother : ∀ (j : Nat) (s : Rw), R[j]? = some s → j ≠ i → ∀ b, s.v.ownBlock = some b → v'.ownBlock ≠ some b := fun j s hs hj b hbs e => by
    rcases hnew b e with h1 | h1
    · exact (h.sep j i s r hs hr hj).2 b hbs h1
    · have := ((h.own j s hs).1.lt b hbs).2; omega
  have hget : ∀ (j : Nat) (s : Rw), (R.set i ⟨r.off, r.T, r.k, n', xs', v'⟩)[j]? = some s → (j = i ∧ s = ⟨r.off, r.T, r.k, n', xs', v'⟩) ∨ (j ≠ i ∧ R[j]? = some s) := fun j s hs => by
    by_cases e : j = i
    · subst e
      rw [List.getElem?_set_self hi] at hs
      exact .inl ⟨rfl, (Option.some.inj hs).symm⟩
    · rw [List.getElem?_set_ne (fun x => e x.symm)] at hs
      exact .inr ⟨e, hs⟩
  have hfoot : ∀ b, foot rb (R.set i ⟨r.off, r.T, r.k, n', xs', v'⟩) b → foot rb R b ∨ b = u.heap.size := fun b hfb => by
    rcases hfb with rfl | ⟨s, hs, hsb⟩
    · exact .inl (.inl rfl)
    · obtain ⟨j, hj, rfl⟩ := List.mem_iff_getElem.1 hs
      rcases hget j _ (List.getElem?_eq_getElem hj) with ⟨_, e⟩ | ⟨_, e⟩
      · rw [e] at hsb
        rcases hnew b hsb with h1 | h1
        · exact .inl (.inr ⟨r, List.mem_of_getElem? hr, h1⟩)
        · exact .inr h1
      · exact .inl (.inr ⟨_, List.mem_of_getElem? e, hsb⟩)
  refine ⟨⟨by rw [World.size_setCell]; exact Nat.lt_of_lt_of_le hlt hfr.size, fun j s hs => ?_, fun j s hs => ?_, fun j k s q hs hq hjk => ?_⟩, hfr.setCell _ _ (fun _ => .inl rfl), fun b hfb => ?_, fun j s hs b m hbs hm => ?_, fun o ho' => ⟨?_, ?_⟩, List.length_set, fun j s s' hs hs' => ?_⟩
  · rcases hget j s hs with ⟨_, rfl⟩ | ⟨hne, hs2⟩
    · exact ⟨World.cell?_setCell_same _ _ _ ((hcellrb _).trans (h.cell i r hr).1), by rw [World.frozen?_setCell]; exact (hfrrb _).trans (h.cell i r hr).2⟩
    · have := h.cell j s hs2
      refine ⟨?_, by rw [World.frozen?_setCell]; exact (hfrrb _).trans this.2⟩
      rw [World.cell?_setCell_other _ _ _ _ (fun e => (h.sep j i s r hs2 hr hne).1 (congrArg Addr.off e).symm)]
      exact (hcellrb _).trans this.1
  · rcases hget j s hs with ⟨_, rfl⟩ | ⟨hne, hs2⟩
    · exact ⟨hsetrow _ ho hvr, hvr⟩
    · have hs3 := h.own j s hs2
      exact ⟨hsetrow _ (hG.row (hU.own j s hs2).1 (fun b hbs e => (h.sep j i s r hs2 hr hne).2 b hbs e)) hs3.2, hs3.2⟩
  · rcases hget j s hs with ⟨ej, rfl⟩ | ⟨nj, hs2⟩
    · rcases hget k q hq with ⟨ek, rfl⟩ | ⟨nk, hq2⟩
      · exact absurd (ej.trans ek.symm) hjk
      · exact ⟨(h.sep i k r q hr hq2 (fun e => nk e.symm)).1, fun b hv hqb => hother k q hq2 nk b hqb hv⟩
    · rcases hget k q hq with ⟨ek, rfl⟩ | ⟨nk, hq2⟩
      · exact ⟨(h.sep j i s r hs2 hr nj).1, fun b hsb hv => hother j s hs2 nj b hsb hv⟩
      · exact h.sep j k s q hs2 hq2 hjk
  · rcases hfoot b hfb with h1 | h1
    · exact .inl h1
    · exact .inr (by omega)
  · have hbrb : b ≠ rb := fun e => (h.own j s hs).2 (by rw [← e]; exact hbs)
    have hbw : b < w.heap.size := ((h.own j s hs).1.lt b hbs).2
    rw [World.cell?_setCell_other _ _ _ _ (fun e => hbrb (congrArg Addr.block e).symm)]
    have e0 : u.cell? ⟨b, m, none⟩ = w.cell? ⟨b, m, none⟩ := hb.cell (p := ⟨b, m, none⟩) hbw
    rw [← e0]
    by_cases e : j = i
    · subst e
      obtain rfl : r = s := Option.some.inj (hr.symm.trans hs)
      rcases hg.2 with h1 | ⟨h1, h2⟩
      · have hm1 : m < r.xs.length := by rw [hrow.1.1]; exact hm
        have c1 := (hU.own _ r hr).1.cells hbs m _ (List.getElem?_eq_getElem hm1)
        have c2 := ho.cells (h1.trans hbs) m _ ((hxs m hm).trans (List.getElem?_eq_getElem hm1))
        rw [Addr.add_lit, Nat.zero_add] at c1 c2
        rw [c1, c2]
      · exact h2.cell (p := ⟨b, m, none⟩) (by show b < u.heap.size; omega)
    · exact World.cell?_of_block (hG.keep b (by omega) (fun e2 => (h.sep j i s r hs hr e).2 b hbs e2))
  · rw [World.cell?_setCell_other _ _ _ _ (fun e => ho' i r hr (congrArg Addr.off e))]
    exact hcellrb o
  · rw [World.frozen?_setCell]; exact hfrrb o
  · rcases hget j s' hs' with ⟨ej, rfl⟩ | ⟨nj, hs2⟩
    · subst ej
      obtain rfl : r = s := Option.some.inj (hr.symm.trans hs)
      refine ⟨rfl, rfl, rfl, fun b hbs => ?_⟩
      rcases hg.2 with h1 | ⟨h1, _⟩
      · exact .inl ⟨h1.trans hbs, hn⟩
      · right
        have hbu : b < u.heap.size := by have := (hrow.1.lt b hbs).2; omega
        rintro (rfl | ⟨q, hq, hqb⟩)
        · exact hrow.2 hbs
        · obtain ⟨k, hk, rfl⟩ := List.mem_iff_getElem.1 hq
          rcases hget k _ (List.getElem?_eq_getElem hk) with ⟨_, e⟩ | ⟨nk, e⟩
          · rw [e] at hqb
            dsimp only at hqb
            rw [h1] at hqb
            have := Option.some.inj hqb
            omega
          · exact (h.sep _ k r _ hr e (fun x => nk x.symm)).2 b hbs hqb
    · obtain rfl : s = s' := Option.some.inj (hs.symm.trans hs2)
      exact ⟨rfl, rfl, rfl, fun b hbs => .inl ⟨hbs, Nat.le_refl _⟩⟩
theorem Hq.trans {rb : Nat} {R R' R'' : List Rw} {w u v : World} (hR : Hold rb R w) (h : Hq rb R R' w u) (k : Hq rb R' R'' u v) : Hq rb R R'' w v := by
  have hz := h.fr.size
  refine ⟨k.hold, h.fr.trans k.fr (fun b hb hf => ?_), fun b hf => ?_, fun i r hr b j hbs hj => ?_, fun o ho => ?_, k.len.trans h.len, fun i r r' hr hr' => ?_⟩
  · rcases h.ft b hf with h1 | h1
    · exact h1
    · omega
  · rcases k.ft b hf with h1 | h1
    · exact h.ft b h1
    · exact .inr (by omega)
  · have hi : i < R'.length := by rw [h.len]; exact (List.getElem?_eq_some_iff.1 hr).1
    obtain ⟨_, _, ek, hup⟩ := h.up i r _ hr (List.getElem?_eq_getElem hi)
    have hbw : b < w.heap.size := ((hR.own i r hr).1.lt b hbs).2
    rw [← h.old i r hr b j hbs hj]
    rcases hup b hbs with ⟨h1, h2⟩ | h1
    · exact k.old i _ (List.getElem?_eq_getElem hi) b j h1 (Nat.lt_of_lt_of_le hj (by rw [ek]; exact Nat.mul_le_mul_right _ h2))
    · exact World.cell?_of_block (k.fr.keep b (by omega) h1)
  · have ho2 : ∀ (i : Nat) (r : Rw), R'[i]? = some r → r.off ≠ o := fun i r hr => by
      have hi : i < R.length := by rw [← h.len]; exact (List.getElem?_eq_some_iff.1 hr).1
      have := (h.up i _ r (List.getElem?_eq_getElem hi) hr).1
      rw [this]
      exact ho i _ (List.getElem?_eq_getElem hi)
    exact ⟨(k.at_ o ho2).1.trans (h.at_ o ho).1, (k.at_ o ho2).2.trans (h.at_ o ho).2⟩
  · have hi : i < R'.length := by rw [h.len]; exact (List.getElem?_eq_some_iff.1 hr).1
    obtain ⟨e1, e2, e3, hup⟩ := h.up i r _ hr (List.getElem?_eq_getElem hi)
    obtain ⟨g1, g2, g3, gup⟩ := k.up i _ r' (List.getElem?_eq_getElem hi) hr'
    refine ⟨g1.trans e1, g2.trans e2, g3.trans e3, fun b hbs => ?_⟩
    have hbw : b < w.heap.size := ((hR.own i r hr).1.lt b hbs).2
    rcases hup b hbs with ⟨h1, h2⟩ | h1
    · rcases gup b h1 with ⟨h3, h4⟩ | h3
      · exact .inl ⟨h3, Nat.le_trans h2 h4⟩
      · exact .inr h3
    · refine .inr (fun hf => ?_)
      rcases k.ft b hf with h3 | h3
      · exact h1 h3
      · omega
/-- As the kit's laws at an append, with where it lies and what has stayed. -/
theorem wpList_append_f {P : Program} (w : World) {ops : Array Oper} {rest : List Oper} {o : Oper} {a : Act} {Q : Exit → Act → World → Prop} (hgd : o.guard = none) (s x : Operand) (t : TypeId)
    (ho : o.op = .call { callee := .builtin .append, args := #[s, x], argTypes := #[t, t] })
    (e : TypeId) (i : TypeInfo) (z : Value) (size bytes : Nat) (ht : P.underlying t = some (.slice e)) (hi : P.info? e = some i) (hz : i.zero = some z)
    (hsize : i.size = size) (hby : i.bytes = bytes) (hzs : z.cells.size = size) (hsz : 0 < size)
    (v : Value) (n : Nat) (xs : List Value) (hs : a.eval s = v) (hown : w.ownsRow 0 e size v n xs)
    (ad : Addr) (m c : Nat) (news : List Value) (hx : a.eval x = .slice (some ad) m c) (hl : news.length = m * size) (hnews : ∀ j u, news[j]? = some u → w.cell? (ad.add j) = some u) (h1 : ∀ u ∈ news, u.oneCell' = true)
    (h63 : n + m ≤ maxLen) (hbytes : (n + m) * bytes ≤ 140737488355328)
    (h : ∀ v' w', w'.ownsRow 0 e size v' (n + m) (xs ++ news) → Grew w w' v v' → wpList P ops Q rest (a.put o.dst v') w') :
    wpList P ops Q (o :: rest) a w := by
  refine wpList_plain hgd fun K hK => ?_
  obtain ⟨v', w', hr, h2, h3⟩ := run_append_f (P := P) w t o.type e i z size bytes ht hi hz hsize hby hzs hsz v n xs hown ad m c news hl hnews h1 h63 hbytes
  unfold Oper.wp execOp
  simp only [ho, resolve, invoke, builtin, Sem.run_bind, Sem.run_pure, Result.andThen_ok, List.map_toArray, List.map_cons, List.map_nil, hs, hx, hr]
  exact hK _ _ (h v' w' h2 h3)
/-- What was appended to lies in a world behind the one that is told of. -/
theorem Grew.from {w u w' : World} {v v' : Value} (hb : Below w.heap.size w u) (hg : Grew u w' v v') (hl : ∀ b, v.ownBlock = some b → b < w.heap.size) : w.grownBy w' v.ownBlock :=
  ⟨hg.1.os.trans hb.os, hg.1.tape.trans hb.tape, hg.1.output.trans hb.output, Nat.le_trans hb.size hg.1.size, fun b h1 h2 => (hg.1.block b (Nat.lt_of_lt_of_le h1 hb.size) h2).trans (hb.block b h1)⟩
/-- The same as a step of a region that draws its order. -/
theorem step_append_f {P : Program} {ops : Array Oper} {o : Oper} {a : Act} {w : World} {K : Act → World → Prop} {Q : Exit → Act → World → Prop} {E : Prop}
    (hgd : o.guard = none) (s x : Operand) (t : TypeId) (ho : o.op = Op.call { callee := Callee.builtin Builtin.append, args := #[s, x], argTypes := #[t, t] })
    (e : TypeId) (i : TypeInfo) (z : Value) (size bytes : Nat) (ht : P.underlying t = some (.slice e)) (hi : P.info? e = some i) (hz : i.zero = some z)
    (hsize : i.size = size) (hby : i.bytes = bytes) (hzs : z.cells.size = size) (hsz : 0 < size)
    (v : Value) (n : Nat) (xs : List Value) (hs : a.eval s = v) (hown : w.ownsRow 0 e size v n xs)
    (ad : Addr) (m c : Nat) (news : List Value) (hx : a.eval x = .slice (some ad) m c) (hl : news.length = m * size) (hnews : ∀ j u, news[j]? = some u → w.cell? (ad.add j) = some u) (h1 : ∀ u ∈ news, u.oneCell' = true)
    (h63 : n + m ≤ maxLen) (hbytes : (n + m) * bytes ≤ 140737488355328)
    (hK : ∀ v' w', w'.ownsRow 0 e size v' (n + m) (xs ++ news) → Grew w w' v v' → K (a.put o.dst v') w') :
    if Region.wanted o (yielded ops a.tmps) = true then Oper.wp P o a w K Q else E := by
  have hw : Region.wanted o (yielded ops a.tmps) = true := by simp [Region.wanted, hgd]
  rw [if_pos hw]
  obtain ⟨v', w', hr, h2, h3⟩ := run_append_f (P := P) w t o.type e i z size bytes ht hi hz hsize hby hzs hsz v n xs hown ad m c news hl hnews h1 h63 hbytes
  unfold Oper.wp execOp
  simp only [ho, resolve, invoke, builtin, Sem.run_bind, Sem.run_pure, Result.andThen_ok, List.map_toArray, List.map_cons, List.map_nil, hs, hx, hr]
  exact hK v' w' h2 h3
theorem Grew.base {U w' w : World} {v v' : Value} {N : Nat} (hg : Grew U w' v v') (h : Below N w U) : Below N w U := h
theorem Grew.cell {U w' : World} {v v' x : Value} {b o : Nat} (hg : Grew U w' v v') (hne : v.ownBlock ≠ some b) (h : U.cell? ⟨b, o, none⟩ = some x) : w'.cell? ⟨b, o, none⟩ = some x :=
  hg.1.cell h (fun e => hne e.symm)
theorem Grew.frozen {U w' : World} {v v' : Value} {b o : Nat} (hg : Grew U w' v v') (hne : v.ownBlock ≠ some b) (hlt : b < U.heap.size) (h : U.frozen? ⟨b, o, none⟩ = false) : w'.frozen? ⟨b, o, none⟩ = false :=
  (World.frozen?_of_block (w := U) (hg.1.block b hlt (fun e => hne e.symm))).trans h
theorem Below.ownRow {w u : World} {B n k : Nat} {T : TypeId} {x : Value} {xs : List Value} (hb : Below w.heap.size w u) (ho : w.ownsRow B T k x n xs) : u.ownsRow B T k x n xs :=
  (Fr.ofBelow (F := fun _ => False) hb).row ho (fun _ _ f => f)
/-- Of what stood there only the cell o of the block rb has been written. -/
structure Ot (rb o : Nat) (w u : World) : Prop where
  lt : rb < w.heap.size
  fr : Fr (fun k => k = rb) w u
  ot : ∀ j, j ≠ o → u.cell? ⟨rb, j, none⟩ = w.cell? ⟨rb, j, none⟩
  fz : ∀ j, u.frozen? ⟨rb, j, none⟩ = w.frozen? ⟨rb, j, none⟩
section
variable {rb o : Nat} {w u : World}
theorem Ot.refl (h : rb < w.heap.size) (o : Nat) : Ot rb o w w := ⟨h, Fr.refl _ _, fun _ _ => rfl, fun _ => rfl⟩
theorem Ot.alloc (h : Ot rb o w u) (x : Obj) : Ot rb o w (u.alloc x) := by
  have hu : rb < u.heap.size := Nat.lt_of_lt_of_le h.lt h.fr.size
  have hb : Below u.heap.size u (u.alloc x) := (Below.refl _ _).alloc (Nat.le_refl _) _
  exact ⟨h.lt, h.fr.alloc x, fun j hj => (hb.cell (p := ⟨rb, j, none⟩) hu).trans (h.ot j hj), fun j => (hb.frozen (p := ⟨rb, j, none⟩) hu).trans (h.fz j)⟩
theorem Ot.drew (h : Ot rb o w u) : Ot rb o w u.drew := by
  have hu : rb < u.heap.size := Nat.lt_of_lt_of_le h.lt h.fr.size
  have hb : Below u.heap.size u u.drew := Below.drew (Below.refl _ _)
  exact ⟨h.lt, h.fr.trans (G := fun _ => False) (Fr.ofBelow hb) (fun _ _ f => f.elim), fun j hj => (hb.cell (p := ⟨rb, j, none⟩) hu).trans (h.ot j hj), fun j => (hb.frozen (p := ⟨rb, j, none⟩) hu).trans (h.fz j)⟩
theorem Ot.behind {v : World} (h : Ot rb o w u) (hb : Below u.heap.size u v) : Ot rb o w v := by
  have hu : rb < u.heap.size := Nat.lt_of_lt_of_le h.lt h.fr.size
  exact ⟨h.lt, h.fr.trans (G := fun _ => False) (Fr.ofBelow hb) (fun _ _ f => f.elim), fun j hj => (hb.cell (p := ⟨rb, j, none⟩) hu).trans (h.ot j hj), fun j => (hb.frozen (p := ⟨rb, j, none⟩) hu).trans (h.fz j)⟩
theorem Ot.setNew (h : Ot rb o w u) (p : Addr) (x : Value) (hp : w.heap.size ≤ p.block) : Ot rb o w (u.setCell p x) :=
  ⟨h.lt, h.fr.setCell p x (fun hq => by omega), fun j hj => by
    rw [World.cell?_setCell_other _ _ _ _ (fun e => by have := congrArg Addr.block e; have := h.lt; dsimp only at *; omega)]; exact h.ot j hj, fun j => by rw [World.frozen?_setCell]; exact h.fz j⟩
theorem Ot.setOwn (h : Ot rb o w u) (x : Value) : Ot rb o w (u.setCell ⟨rb, o, none⟩ x) :=
  ⟨h.lt, h.fr.setCell _ x (fun _ => rfl), fun j hj => by
    rw [World.cell?_setCell_other _ _ _ _ (fun e => hj (congrArg Addr.off e).symm)]; exact h.ot j hj, fun j => by rw [World.frozen?_setCell]; exact h.fz j⟩
theorem Ot.hold {R : List Rw} (h : Ot rb o w u) (hR : Hold rb R w) (ho : ∀ (i : Nat) (r : Rw), R[i]? = some r → r.off ≠ o) : Hold rb R u :=
  ⟨Nat.lt_of_lt_of_le h.lt h.fr.size, fun i r hr => ⟨(h.ot _ (ho i r hr)).trans (hR.cell i r hr).1, (h.fz _).trans (hR.cell i r hr).2⟩,
    fun i r hr => ⟨h.fr.row (hR.own i r hr).1 (fun b hb e => (hR.own i r hr).2 (by rw [hb, e])), (hR.own i r hr).2⟩, hR.sep⟩
end
end Go.Proofs.YtcplegelppfdeaaDoor
