/-
  The program's ports: what they are, where they lie; things in memory that lie apart from each other.
-/
import Derived.Test.YtcnejgilmciljaaDoorWriter11
set_option linter.unusedSimpArgs false
set_option linter.unusedVariables false
namespace Go.Proofs.YtcnejgilmciljaaDoor
open Go.RowKit Go.PlainAid

def eE (x : Int × Int) : List Value := [.int .i64 x.1, .int .u8 x.2]
theorem eE_len (x : Int × Int) : (eE x).length = 2 := rfl
theorem eE_one (x : Int × Int) : ∀ u ∈ eE x, u.oneCell' = true := by intro u h; simp [eE] at h; rcases h with rfl | rfl <;> rfl
def secT (l : List Int) : List (Int × Int) := l.map fun v => (v, 255)
theorem secT_len (l : List Int) : (secT l).length = l.length := List.length_map ..
theorem secT_nil {l : List Int} : secT l ≠ [] ↔ l ≠ [] := by cases l <;> simp [secT]
theorem secT_tail (l : List Int) : secT l.tail = (secT l).tail := by cases l <;> rfl
def Po.log (S : Po) : List (Int × Int) := S.cyc.zip S.told
/-- The program's three rows. -/
def rP (S : Po) (a b c : Value) : List Rw :=
  [⟨2, 5, 1, S.out.length, S.out.flatMap bE, a⟩, ⟨3, 23, 2, S.kept.length, S.kept.flatMap kE, b⟩, ⟨4, 107, 2, S.log.length, S.log.flatMap eE, c⟩]
/-- What comes in, at a cell, of any kind. -/
structure Inq {α : Type} (enc : α → List Value) (k pb o : Nat) (F : Nat → Prop) (v : Value) (l : List α) (w : World) : Prop where
  c : w.cell? ⟨pb, o, none⟩ = some v
  f : w.frozen? ⟨pb, o, none⟩ = false
  h : HoldsW enc k w v l
  n : l ≠ [] → ∀ b, v.ownBlock = some b → ¬ F b
/-- How much ports have at most. -/
structure Fit (S : Po) : Prop where
  pub : S.pub.length ≤ 65536
  sec : S.sec.length ≤ 65536
  out : S.out.length ≤ 4096
  kept : S.kept.length ≤ 4096
  told : S.told.length ≤ 4096
  cyc : S.cyc.length = S.told.length
theorem Fit.log {S : Po} (h : Fit S) : S.log.length = S.told.length := by
  unfold Po.log
  rw [List.length_zip, h.cyc, Nat.min_self]
/-- The program's ports at pb. -/
structure Pp (pb : Nat) (S : Po) (x y a b c : Value) (w : World) : Prop where
  hold : Hold pb (rP S a b c) w
  p : Inq bE 1 pb 0 (foot pb (rP S a b c)) x S.pub w
  s : Inq kE 2 pb 1 (foot pb (rP S a b c)) y (secT S.sec) w
section
variable {α : Type} {enc : α → List Value} {k pb o : Nat} {F G : Nat → Prop} {v : Value} {l : List α} {w u : World}
theorem Inq.below (h : Inq enc k pb o F v l w) (hb : Below w.heap.size w u) : Inq enc k pb o F v l u :=
  ⟨kc hb h.c, kfz hb (klt h.c) h.f, h.h.below hb, h.n⟩
theorem Inq.fr (h : Inq enc k pb o F v l w) (hf : Fr G w u) (hr : ¬ G pb) (hg : l ≠ [] → ∀ b, v.ownBlock = some b → ¬ G b) : Inq enc k pb o F v l u :=
  ⟨hf.cell h.c hr, hf.frozen (klt h.c) h.f hr, h.h.fr hf hg, h.n⟩
theorem Inq.ot {o' : Nat} (h : Inq enc k pb o F v l w) (hq : Ot pb o' w u) (hn : o ≠ o') (hF : F pb) : Inq enc k pb o F v l u :=
  ⟨(hq.ot o hn).trans h.c, (hq.fz o).trans h.f, h.h.fr hq.fr (fun hl b hb e => h.n hl b hb (e ▸ hF)), h.n⟩
theorem holds_old (h : HoldsW enc k w v l) (hk : ∀ x, (enc x).length = k) (k0 : 0 < k) : l ≠ [] → ∀ b, v.ownBlock = some b → b < w.heap.size := fun hl b hb => by
  rcases h with ⟨_, e⟩ | ⟨g, o', cap, rfl, _, hc⟩
  · exact absurd e hl
  · obtain rfl : g = b := by simpa [Value.ownBlock] using hb
    cases l with
    | nil => exact absurd rfl hl
    | cons z r =>
      have hz : (enc z)[0]? = some ((enc z)[0]'(by rw [hk]; exact k0)) := List.getElem?_eq_getElem _
      exact klt (hc 0 z rfl 0 _ hz)
theorem Inq.hq {R R' : List Rw} (h : Inq enc k pb o (foot pb R) v l w) (hk : ∀ x, (enc x).length = k) (k0 : 0 < k) (hq : Hq pb R R' w u) (ho : ∀ (i : Nat) (r : Rw), R[i]? = some r → r.off ≠ o) : Inq enc k pb o (foot pb R') v l u := by
  refine ⟨(hq.at_ o ho).1.trans h.c, (hq.at_ o ho).2.trans h.f, h.h.fr hq.fr h.n, fun hl b hb hf => ?_⟩
  rcases hq.ft b hf with h1 | h1
  · exact h.n hl b hb h1
  · have := holds_old h.h hk k0 hl b hb
    omega
/-- The cells of what a slice holds, in a row. -/
theorem holds_flat (hk : ∀ x, (enc x).length = k) (k0 : 0 < k) {g o' : Nat} (hc : ∀ j (x : α), l[j]? = some x → ∀ i u, (enc x)[i]? = some u → w.cell? ⟨g, o' + j * k + i, none⟩ = some u) :
    ∀ j u, (l.flatMap enc)[j]? = some u → w.cell? ((⟨g, o', none⟩ : Addr).add j) = some u := fun j u hu => by
  have hj := (List.getElem?_eq_some_iff.1 hu).1
  rw [flat_len8 hk] at hj
  have h1 : j / k < l.length := (Nat.div_lt_iff_lt_mul k0).2 hj
  have h2 : j % k < (enc l[j / k]).length := by rw [hk]; exact Nat.mod_lt _ k0
  have h3 := flat_at8 hk l (j / k) l[j / k] (j % k) _ (List.getElem?_eq_getElem h1) (List.getElem?_eq_getElem h2)
  rw [Nat.div_add_mod' j k] at h3
  have h4 := hc (j / k) _ (List.getElem?_eq_getElem h1) (j % k) _ (List.getElem?_eq_getElem h2)
  rw [h3] at hu
  obtain rfl := Option.some.inj hu
  rw [Addr.add_lit, show o' + j = o' + j / k * k + j % k from by rw [Nat.add_assoc, Nat.div_add_mod']]
  exact h4
end
section
variable {pb : Nat} {S S' : Po} {x y a b c a' b' c' x' y' : Value} {w u : World}
theorem rP_off (S : Po) (a b c : Value) (o : Nat) (ho : o < 2) : ∀ (i : Nat) (r : Rw), (rP S a b c)[i]? = some r → r.off ≠ o := fun i r hr => by
  match i, hr with
  | 0, hr => cases hr; dsimp only; omega
  | 1, hr => cases hr; dsimp only; omega
  | 2, hr => cases hr; dsimp only; omega
  | n + 3, hr => simp [rP] at hr
theorem Pp.below (h : Pp pb S x y a b c w) (hb : Below w.heap.size w u) : Pp pb S x y a b c u := ⟨h.hold.below hb, h.p.below hb, h.s.below hb⟩
theorem Pp.hq (h : Pp pb S x y a b c w) (hq : Hq pb (rP S a b c) (rP S' a' b' c') w u) (hp : S'.pub = S.pub) (hs : S'.sec = S.sec) : Pp pb S' x y a' b' c' u :=
  ⟨hq.hold, by rw [hp]; exact h.p.hq bE_len (by omega) hq (rP_off S a b c 0 (by omega)), by rw [hs]; exact h.s.hq kE_len (by omega) hq (rP_off S a b c 1 (by omega))⟩
theorem Pp.setP (h : Pp pb S x y a b c w) (hq : Ot pb 0 w u) (l' : List Int) (hc : u.cell? ⟨pb, 0, none⟩ = some x') (hx : HoldsW bE 1 w x' l') (hn : l' ≠ [] → ∀ k, x'.ownBlock = some k → ¬ foot pb (rP S a b c) k) :
    Pp pb ⟨l', S.sec, S.out, S.kept, S.cyc, S.told⟩ x' y a b c u :=
  ⟨hq.hold h.hold (rP_off S a b c 0 (by omega)), ⟨hc, (hq.fz 0).trans h.p.f, hx.fr hq.fr (fun hl k hk e => hn hl k hk (.inl e)), hn⟩, h.s.ot hq (by omega) (.inl rfl)⟩
theorem Pp.setS (h : Pp pb S x y a b c w) (hq : Ot pb 1 w u) (l' : List Int) (hc : u.cell? ⟨pb, 1, none⟩ = some y') (hx : HoldsW kE 2 w y' (secT l')) (hn : l' ≠ [] → ∀ k, y'.ownBlock = some k → ¬ foot pb (rP S a b c) k) :
    Pp pb ⟨S.pub, l', S.out, S.kept, S.cyc, S.told⟩ x y' a b c u :=
  ⟨hq.hold h.hold (rP_off S a b c 1 (by omega)), h.p.ot hq (by omega) (.inl rfl), ⟨hc, (hq.fz 1).trans h.s.f, hx.fr hq.fr (fun hl k hk e => hn (secT_nil.1 hl) k hk (.inl e)), fun hl => hn (secT_nil.1 hl)⟩⟩
theorem Pp.at0 (h : Pp pb S x y a b c w) :
    (w.cell? ⟨pb, 2, none⟩ = some a ∧ w.ownsRow 0 5 1 a S.out.length (S.out.flatMap bE)) ∧ (w.cell? ⟨pb, 3, none⟩ = some b ∧ w.ownsRow 0 23 2 b S.kept.length (S.kept.flatMap kE)) ∧
    w.cell? ⟨pb, 4, none⟩ = some c ∧ w.ownsRow 0 107 2 c S.log.length (S.log.flatMap eE) :=
  ⟨⟨(h.hold.cell 0 _ rfl).1, (h.hold.own 0 _ rfl).1⟩, ⟨(h.hold.cell 1 _ rfl).1, (h.hold.own 1 _ rfl).1⟩, (h.hold.cell 2 _ rfl).1, (h.hold.own 2 _ rfl).1⟩
end
/-- Something that lies in memory: the blocks that it writes, those on which it hangs. -/
abbrev Thing := (Nat → Prop) → (Nat → Prop) → World → Prop
/-- It stays where none of its blocks is written. -/
structure Frm (T : Thing) : Prop where
  fr : ∀ {F G H : Nat → Prop} {w u : World}, T F G w → Fr H w u → (∀ b, G b → ¬ H b) → T F G u
  sub : ∀ {F G : Nat → Prop} {w : World}, T F G w → ∀ b, F b → G b
  lt : ∀ {F G : Nat → Prop} {w : World}, T F G w → ∀ b, G b → b < w.heap.size
/-- The blocks of ports, and of what comes in. -/
def hang (F : Nat → Prop) (p q : Bool) (x y : Value) (b : Nat) : Prop := F b ∨ (p = true ∧ x.ownBlock = some b) ∨ (q = true ∧ y.ownBlock = some b)
def some_ (l : List Int) : Bool := !l.isEmpty
theorem some_iff {l : List Int} : some_ l = true ↔ l ≠ [] := by cases l <;> simp [some_]
def PO (pb : Nat) (S : Po) : Thing := fun F G w => ∃ x y a b c, Pp pb S x y a b c w ∧ F = foot pb (rP S a b c) ∧ G = hang F (some_ S.pub) (some_ S.sec) x y
def DO (rb : Nat) (S : Po) : Thing := fun F G w => ∃ x y a b c d, Dp rb S x y a b c d w ∧ F = foot rb (rD S a b c d) ∧ G = hang F (some_ S.pub) (some_ S.sec) x y
theorem PO.frm (pb : Nat) (S : Po) : Frm (PO pb S) := by
  refine ⟨?_, ?_, ?_⟩
  · rintro F G H w u ⟨x, y, a, b, c, h, rfl, rfl⟩ hf hn
    refine ⟨x, y, a, b, c, ⟨h.hold.fr hf (fun b hb => hn b (.inl hb)), h.p.fr hf (hn _ (.inl (.inl rfl))) (fun hl b hb => hn b (.inr (.inl ⟨some_iff.2 hl, hb⟩))), h.s.fr hf (hn _ (.inl (.inl rfl))) (fun hl b hb => hn b (.inr (.inr ⟨some_iff.2 (secT_nil.1 hl), hb⟩)))⟩, rfl, rfl⟩
  · rintro F G w ⟨x, y, a, b, c, h, rfl, rfl⟩ b hb
    exact .inl hb
  · rintro F G w ⟨x, y, a, b, c, h, rfl, rfl⟩ b (hb | ⟨hl, hb⟩ | ⟨hl, hb⟩)
    · exact h.hold.foot_lt hb
    · exact holds_old h.p.h bE_len (by omega) (some_iff.1 hl) b hb
    · exact holds_old h.s.h kE_len (by omega) (secT_nil.2 (some_iff.1 hl)) b hb
theorem DO.frm (rb : Nat) (S : Po) : Frm (DO rb S) := by
  refine ⟨?_, ?_, ?_⟩
  · rintro F G H w u ⟨x, y, a, b, c, d, h, rfl, rfl⟩ hf hn
    refine ⟨x, y, a, b, c, d, ⟨h.hold.fr hf (fun b hb => hn b (.inl hb)), h.p.fr hf (hn _ (.inl (.inl rfl))) (fun hl b hb => hn b (.inr (.inl ⟨some_iff.2 hl, hb⟩))), h.s.fr hf (hn _ (.inl (.inl rfl))) (fun hl b hb => hn b (.inr (.inr ⟨some_iff.2 hl, hb⟩)))⟩, rfl, rfl⟩
  · rintro F G w ⟨x, y, a, b, c, d, h, rfl, rfl⟩ b hb
    exact .inl hb
  · rintro F G w ⟨x, y, a, b, c, d, h, rfl, rfl⟩ b (hb | ⟨hl, hb⟩ | ⟨hl, hb⟩)
    · exact h.hold.foot_lt hb
    · exact holds_old h.p.h bE_len (by omega) (some_iff.1 hl) b hb
    · exact holds_old h.s.h bE_len (by omega) (some_iff.1 hl) b hb
/-- What a call leaves: it wrote F's blocks alone, and what it has now is of those, or new. -/
structure Mv (F G F' G' : Nat → Prop) (w u : World) : Prop where
  fr : Fr F w u
  f : ∀ b, F' b → F b ∨ w.heap.size ≤ b
  g : ∀ b, G' b → G b ∨ w.heap.size ≤ b
structure Apart (F G F2 G2 : Nat → Prop) : Prop where
  a : ∀ b, F b → ¬ G2 b
  b : ∀ b, F2 b → ¬ G b
section
variable {F G F' G' F2 G2 F3 G3 : Nat → Prop} {w u v : World}
theorem Apart.symm (h : Apart F G F2 G2) : Apart F2 G2 F G := ⟨h.b, h.a⟩
theorem Mv.refl (F G : Nat → Prop) (w : World) : Mv F G F G w w := ⟨Fr.refl _ _, fun _ h => .inl h, fun _ h => .inl h⟩
theorem Mv.ofBelow (F G : Nat → Prop) (h : Below w.heap.size w u) : Mv F G F G w u := ⟨Fr.ofBelow h, fun _ h => .inl h, fun _ h => .inl h⟩
theorem Mv.trans (h : Mv F G F' G' w u) (k : Mv F' G' F2 G2 u v) : Mv F G F2 G2 w v := by
  have hz := h.fr.size
  refine ⟨h.fr.trans k.fr (fun b hb hf => (h.f b hf).elim id (fun h1 => by omega)), fun b hb => ?_, fun b hb => ?_⟩
  · rcases k.f b hb with h1 | h1
    · exact h.f b h1
    · exact .inr (by omega)
  · rcases k.g b hb with h1 | h1
    · exact h.g b h1
    · exact .inr (by omega)
theorem Mv.below (h : Mv F G F' G' w u) (hb : Below u.heap.size u v) : Mv F G F' G' w v := h.trans (Mv.ofBelow _ _ hb)
theorem Mv.apart {T : Thing} (hT : Frm T) (t : T F2 G2 w) (h : Mv F G F' G' w u) (ha : Apart F G F2 G2) : Apart F' G' F2 G2 :=
  ⟨fun b hb hg => (h.f b hb).elim (fun h1 => ha.a b h1 hg) (fun h1 => by have := hT.lt t b hg; omega), fun b hb hg => (h.g b hg).elim (fun h1 => ha.b b hb h1) (fun h1 => by have := hT.lt t b (hT.sub t b hb); omega)⟩
/-- What lies apart stays. -/
theorem Mv.stay {T : Thing} (hT : Frm T) (t : T F2 G2 w) (h : Mv F G F' G' w u) (ha : Apart F G F2 G2) : T F2 G2 u := hT.fr t h.fr (fun b hb hf => ha.a b hf hb)
theorem Frm.below {T : Thing} (hT : Frm T) (t : T F G w) (h : Below w.heap.size w u) : T F G u := hT.fr t (Fr.ofBelow (F := fun _ => False) h) (fun _ _ f => f)
/-- What is new lies apart from what was there. -/
theorem Apart.fresh {T : Thing} (hT : Frm T) (t : T F2 G2 w) (h : ∀ b, G b → w.heap.size ≤ b) (hs : ∀ b, F b → G b) : Apart F G F2 G2 :=
  ⟨fun b hb hg => by have := hT.lt t b hg; have := h b (hs b hb); omega, fun b hb hg => by have := hT.lt t b (hT.sub t b hb); have := h b hg; omega⟩
theorem Mv.low (h : Mv F G F' G' w u) {N : Nat} (hF : ∀ b, F b → N ≤ b) (hN : N ≤ w.heap.size) : ∀ b, F' b → N ≤ b := fun b hb => (h.f b hb).elim (hF b) (fun h1 => by omega)
theorem Mv.lowB {w0 : World} (h : Mv F G F' G' w u) {N : Nat} (h0 : Below N w0 w) (hF : ∀ b, F b → N ≤ b) (hN : N ≤ w0.heap.size) : Below N w0 u := Fr.toBelow h0 h.fr hF hN
end
end Go.Proofs.YtcnejgilmciljaaDoor
