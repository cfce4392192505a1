/-
  The law's does: a call with both.
-/
import Derived.Test.YtcnejgilmciljaaGreatDoorAwake11
set_option linter.unusedSimpArgs false
set_option linter.unusedVariables false
namespace Go.Proofs.YtcnejgilmciljaaGreatDoor
open Go.RowKit Go.PlainAid

/-- What is left of a struct's rows behind a call, whatever else it did. -/
structure Rq (rb : Nat) (R R' : List Rw) (w u : World) : Prop where
  ft : ∀ b, foot rb R' b → foot rb R b ∨ w.heap.size ≤ b
  old : ∀ (i : Nat) (r : Rw), R[i]? = some r → ∀ b j, r.v.ownBlock = some b → j < r.n * r.k → u.cell? ⟨b, j, none⟩ = w.cell? ⟨b, j, none⟩
  len : R'.length = R.length
  up : ∀ (i : Nat) (r r' : Rw), R[i]? = some r → R'[i]? = some r' → r'.k = r.k ∧ ∀ b, r.v.ownBlock = some b → (r'.v.ownBlock = some b ∧ r.n ≤ r'.n) ∨ ¬ foot rb R' b
section
variable {rb : Nat} {R R' : List Rw} {w W u v : World} {F G F' G' H : Nat → Prop}
theorem Hq.rq (h : Hq rb R R' w u) : Rq rb R R' w u := ⟨h.ft, h.old, h.len, fun i r r' h1 h2 => ⟨(h.up i r r' h1 h2).2.2.1, (h.up i r r' h1 h2).2.2.2⟩⟩
theorem Rq.read (h : Hold rb R w) (hf : Fr (fun k => k = rb) w u) : Rq rb R R w u :=
  ⟨fun b hb => .inl hb, fun i r hr b j hb hj => World.cell?_of_block (hf.keep b ((h.own i r hr).1.lt b hb).2 (fun e => (h.own i r hr).2 (by rw [hb, e]))), rfl, fun i r r' h1 h2 => by
    obtain rfl : r = r' := Option.some.inj (h1.symm.trans h2)
    exact ⟨rfl, fun b hb => .inl ⟨hb, Nat.le_refl _⟩⟩⟩
theorem Rq.behind (hold : Hold rb R w) (hf : Fr H w W) (hd : ∀ b, foot rb R b → ¬ H b) (h : Rq rb R R' W u) : Rq rb R R' w u :=
  ⟨fun b hb => (h.ft b hb).imp id (fun h1 => by have := hf.size; omega), fun i r hr b j hb hj => (h.old i r hr b j hb hj).trans (World.cell?_of_block (hf.keep b ((hold.own i r hr).1.lt b hb).2 (hd b (.inr ⟨r, List.mem_of_getElem? hr, hb⟩)))), h.len, h.up⟩
theorem Rq.below (hold : Hold rb R w) (h : Rq rb R R' w u) (hs : w.heap.size ≤ u.heap.size) (hb : Below u.heap.size u v) : Rq rb R R' w v :=
  ⟨h.ft, fun i r hr b j hbb hj => (hb.cell (p := ⟨b, j, none⟩) (Nat.lt_of_lt_of_le ((hold.own i r hr).1.lt b hbb).2 hs)).trans (h.old i r hr b j hbb hj), h.len, h.up⟩
/-- What a call with both leaves. -/
structure StepQ (rb : Nat) (F G : Nat → Prop) (R : List Rw) (F' G' : Nat → Prop) (R' : List Rw) (w u : World) : Prop where
  fr : Fr (fun b => F b ∨ foot rb R b) w u
  f : ∀ b, F' b → F b ∨ w.heap.size ≤ b
  g : ∀ b, G' b → G b ∨ w.heap.size ≤ b
  rq : Rq rb R R' w u
theorem StepQ.behind (hold : Hold rb R w) (hb : Below w.heap.size w W) (h : StepQ rb F G R F' G' R' W u) : StepQ rb F G R F' G' R' w u := by
  have hz := hb.size
  exact ⟨(Fr.ofBelow (F := fun k => F k ∨ foot rb R k) hb).trans h.fr (fun _ _ e => e), fun b h1 => (h.f b h1).imp id (fun h2 => by omega), fun b h1 => (h.g b h1).imp id (fun h2 => by omega), h.rq.behind hold (Fr.ofBelow (F := fun _ => False) hb) (fun _ _ f => f)⟩
theorem StepQ.below (hold : Hold rb R w) (h : StepQ rb F G R F' G' R' w u) (hb : Below u.heap.size u v) : StepQ rb F G R F' G' R' w v :=
  ⟨h.fr.trans (Fr.ofBelow (F := fun _ => False) hb) (fun _ _ f => f.elim), h.f, h.g, h.rq.below hold h.fr.size hb⟩
end
/-- Where the document's ports lie. -/
def footD (rb : Nat) (S : Po) (a b c d : Value) : Nat → Prop := foot rb (rD S a b c d)
def hangD (rb : Nat) (S : Po) (x y a b c d : Value) : Nat → Prop := hang (foot rb (rD S a b c d)) (some_ S.pub) (some_ S.sec) x y
/-- Both ports, apart. -/
structure Both (pb rb : Nat) (S : Po) (F G : Nat → Prop) (x y a b c d : Value) (w : World) : Prop where
  po : PO pb S F G w
  dp : Dp rb S x y a b c d w
  apt : Apart F G (footD rb S a b c d) (hangD rb S x y a b c d)
def DoesEnd (pb rb : Nat) (S S' : Po) (F G : Nat → Prop) (x y a b c d : Value) (w : World) : Ending → World → Prop := fun e w' =>
  e = .returned (.bool true) ∧ ∃ F' G' x' y' a' b' c' d', Both pb rb S' F' G' x' y' a' b' c' d' w' ∧ StepQ rb F G (rD S a b c d) F' G' (rD S' a' b' c' d') w w' ∧ ∀ k, hangD rb S' x' y' a' b' c' d' k → hangD rb S x y a b c d k ∨ w.heap.size ≤ k
section
variable {pb rb : Nat} {S S' : Po} {F G F' G' : Nat → Prop} {x y a b c d x' y' a' b' c' d' : Value} {w W w1 W1 u v : World}
theorem DO.of (h : Dp rb S x y a b c d w) : DO rb S (footD rb S a b c d) (hangD rb S x y a b c d) w := ⟨x, y, a, b, c, d, h, rfl, rfl⟩
theorem Dp.keep {H : Nat → Prop} (h : Dp rb S x y a b c d w) (hf : Fr H w u) (hn : ∀ k, hangD rb S x y a b c d k → ¬ H k) : Dp rb S x y a b c d u :=
  ⟨h.hold.fr hf (fun k hk => hn k (.inl hk)), h.p.fr hf (hn _ (.inl (.inl rfl))) (fun hl k hk => hn k (.inr (.inl ⟨some_iff.2 hl, hk⟩))), h.s.fr hf (hn _ (.inl (.inl rfl))) (fun hl k hk => hn k (.inr (.inr ⟨some_iff.2 hl, hk⟩)))⟩
theorem Both.below (h : Both pb rb S F G x y a b c d w) (hb : Below w.heap.size w W) : Both pb rb S F G x y a b c d W := ⟨(PO.frm _ _).below h.po hb, h.dp.below hb, h.apt⟩
/-- Behind the program's call and the document's. -/
theorem does_step (h : Both pb rb S F G x y a b c d w) (hM : Mv F G F' G' w w1) (hP : PO pb S' F' G' w1) (hB1 : Below w1.heap.size w1 W1) (hD : Dp rb S' x' y' a' b' c' d' u) (hfr : Fr (footD rb S a b c d) W1 u)
    (hrq : Rq rb (rD S a b c d) (rD S' a' b' c' d') W1 u) (hx : S'.pub ≠ [] → S.pub ≠ [] ∧ x'.ownBlock = x.ownBlock) (hy : S'.sec ≠ [] → S.sec ≠ [] ∧ y'.ownBlock = y.ownBlock) :
    Both pb rb S' F' G' x' y' a' b' c' d' u ∧ StepQ rb F G (rD S a b c d) F' G' (rD S' a' b' c' d') w u ∧ ∀ k, hangD rb S' x' y' a' b' c' d' k → hangD rb S x y a b c d k ∨ w.heap.size ≤ k := by
  have hz1 := hM.fr.size
  have hz2 := hB1.size
  have hap : Apart F' G' (footD rb S a b c d) (hangD rb S x y a b c d) := hM.apart (DO.frm rb S) (DO.of h.dp) h.apt
  have hPu : PO pb S' F' G' u := (PO.frm _ _).fr ((PO.frm _ _).below hP hB1) hfr (fun k hk hf => hap.b k hf hk)
  have hhang : ∀ k, hangD rb S' x' y' a' b' c' d' k → hangD rb S x y a b c d k ∨ W1.heap.size ≤ k := fun k hk => by
    rcases hk with hk | ⟨h1, h2⟩ | ⟨h1, h2⟩
    · exact (hrq.ft k hk).imp .inl id
    · obtain ⟨h3, h4⟩ := hx (some_iff.1 h1)
      exact .inl (.inr (.inl ⟨some_iff.2 h3, by rw [← h4]; exact h2⟩))
    · obtain ⟨h3, h4⟩ := hy (some_iff.1 h1)
      exact .inl (.inr (.inr ⟨some_iff.2 h3, by rw [← h4]; exact h2⟩))
  have hlt := (PO.frm pb S').lt hP
  have hsub := (PO.frm pb S').sub hP
  refine ⟨⟨hPu, hD, ⟨fun k hk hg => ?_, fun k hk hg => ?_⟩⟩, ⟨?_, hM.f, hM.g, ?_⟩, fun k hk => (hhang k hk).imp id (fun h1 => by omega)⟩
  · rcases hhang k hg with h1 | h1
    · exact hap.a k hk h1
    · have := hlt k (hsub k hk); omega
  · rcases hrq.ft k hk with h1 | h1
    · exact hap.b k h1 hg
    · have := hlt k hg; omega
  · have f1 : Fr (fun k => F k ∨ foot rb (rD S a b c d) k) w w1 := hM.fr.mono (fun _ _ e => .inl e)
    have f2 : Fr (fun k => F k ∨ foot rb (rD S a b c d) k) w W1 := f1.trans (Fr.ofBelow (F := fun _ => False) hB1) (fun _ _ f => f.elim)
    exact f2.trans hfr (fun _ _ e => .inr e)
  · refine Rq.behind h.dp.hold (hM.fr.trans (Fr.ofBelow (F := fun _ => False) hB1) (fun _ _ f => f.elim)) (fun k hk hf => h.apt.a k hf (.inl hk)) hrq
end
theorem does_end {pb rb : Nat} {S S' : Po} {F G F' G' : Nat → Prop} {x y a b c d x' y' a' b' c' d' : Value} {w u v : World} {o : Obj} (hh : Both pb rb S F G x y a b c d w)
    (h : Both pb rb S' F' G' x' y' a' b' c' d' u ∧ StepQ rb F G (rD S a b c d) F' G' (rD S' a' b' c' d') (w.alloc o) u ∧ ∀ k, hangD rb S' x' y' a' b' c' d' k → hangD rb S x y a b c d k ∨ (w.alloc o).heap.size ≤ k) (hb : Below u.heap.size u v) :
    DoesEnd pb rb S S' F G x y a b c d w (.returned (.bool true)) v := by
  have hw : Below w.heap.size w (w.alloc o) := (Below.refl _ _).alloc (Nat.le_refl _) _
  refine ⟨rfl, F', G', x', y', a', b', c', d', h.1.below hb, (h.2.1.below (hh.dp.hold.below hw) hb).behind hh.dp.hold hw, fun k hk => (h.2.2 k hk).imp id (fun h1 => ?_)⟩
  simp only [World.size_alloc] at h1
  omega
theorem readS_sub (S : Po) (reg : Int) : ((readS S reg).pub ≠ [] → S.pub ≠ []) ∧ ((readS S reg).sec ≠ [] → S.sec ≠ []) := by
  unfold readS
  split
  · exact ⟨fun h e => h (by dsimp only; rw [e]; rfl), id⟩
  · split
    · exact ⟨id, fun h e => h (by dsimp only; rw [e]; rfl)⟩
    · exact ⟨id, id⟩
theorem readS_rD (S : Po) (reg : Int) (a b c d : Value) : rD (readS S reg) a b c d = rD S a b c d := by
  unfold readS
  split
  · rfl
  · split <;> rfl
theorem writeP_same (S : Po) (reg v t cy : Int) : (wrPo S reg v t cy).pub = S.pub ∧ (wrPo S reg v t cy).sec = S.sec := by
  unfold wrPo
  split
  · exact ⟨rfl, rfl⟩
  · split
    · exact ⟨rfl, rfl⟩
    · split
      · exact ⟨rfl, rfl⟩
      · split <;> exact ⟨rfl, rfl⟩
/-- What a call makes of ports. -/
def opS (S : Po) (ask reg v t cy : Int) : Po := if ask = 0 then readS S reg else wrPo S reg v t cy
/-- A call leaves ports as great as ports may be. -/
theorem Fit.op {S : Po} (h : Fit S) (ask reg v t cy : Int) : Fit (opS S ask reg v t cy) := by
  obtain ⟨h1, h2, h3, h4, h5, h6⟩ := h
  unfold opS
  split
  · unfold readS
    split
    · exact ⟨by dsimp only; rw [List.length_tail]; omega, h2, h3, h4, h5, h6⟩
    · split
      · exact ⟨h1, by dsimp only; rw [List.length_tail]; omega, h3, h4, h5, h6⟩
      · exact ⟨h1, h2, h3, h4, h5, h6⟩
  · unfold wrPo
    split
    · exact ⟨h1, h2, h3, h4, h5, h6⟩
    · rename_i hE
      have hE' : (writeE S reg t).2 = 0 := by simpa using hE
      unfold writeE at hE'
      split at hE'
      · cases hE'
      · split at hE'
        · cases hE'
        · split at hE'
          · cases hE'
          · rename_i n1 n2 n3
            split
            · exact ⟨h1, h2, by dsimp only; rw [List.length_append, List.length_singleton]; omega, h4, h5, h6⟩
            · split
              · exact ⟨h1, h2, h3, by dsimp only; rw [List.length_append, List.length_singleton]; omega, h5, h6⟩
              · split
                · exact ⟨h1, h2, h3, h4, by dsimp only; rw [List.length_append, List.length_singleton]; omega, by dsimp only; rw [List.length_append, List.length_append, h6]; rfl⟩
                · exact ⟨h1, h2, h3, h4, h5, h6⟩
end Go.Proofs.YtcnejgilmciljaaGreatDoor
