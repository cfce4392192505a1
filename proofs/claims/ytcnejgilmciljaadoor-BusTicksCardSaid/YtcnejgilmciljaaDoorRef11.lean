/-
  The document's ports: what they are, where they lie; Read.
-/
import Derived.Test.YtcnejgilmciljaaDoorFrame
import Derived.Test.YtcnejgilmciljaaDoorPlanX
set_option linter.unusedSimpArgs false
set_option linter.unusedVariables false
namespace Go.Proofs.YtcnejgilmciljaaDoor
open Go.RowKit Go.PlainAid

/-- Ports: what comes in still, what went out, what was told, and when. -/
structure Po where
  pub : List Int
  sec : List Int
  out : List Int
  kept : List (Int × Int)
  cyc : List Int
  told : List Int
def bE (x : Int) : List Value := [.int .u8 x]
def kE (x : Int × Int) : List Value := [.int .u8 x.1, .int .u8 x.2]
def cE (x : Int) : List Value := [.int .i64 x]
theorem bE_len (x : Int) : (bE x).length = 1 := rfl
theorem kE_len (x : Int × Int) : (kE x).length = 2 := rfl
theorem cE_len (x : Int) : (cE x).length = 1 := rfl
theorem bE_one (x : Int) : ∀ u ∈ bE x, u.oneCell' = true := by intro u h; simp [bE] at h; subst h; rfl
theorem kE_one (x : Int × Int) : ∀ u ∈ kE x, u.oneCell' = true := by intro u h; simp [kE] at h; rcases h with rfl | rfl <;> rfl
theorem cE_one (x : Int) : ∀ u ∈ cE x, u.oneCell' = true := by intro u h; simp [cE] at h; subst h; rfl
/-- The document's four rows. -/
def rD (S : Po) (a b c d : Value) : List Rw :=
  [⟨2, 5, 1, S.out.length, S.out.flatMap bE, a⟩, ⟨3, 23, 2, S.kept.length, S.kept.flatMap kE, b⟩, ⟨4, 3, 1, S.cyc.length, S.cyc.flatMap cE, c⟩, ⟨5, 5, 1, S.told.length, S.told.flatMap bE, d⟩]
/-- What comes in, at a cell. -/
structure Inp (rb o : Nat) (F : Nat → Prop) (v : Value) (l : List Int) (w : World) : Prop where
  c : w.cell? ⟨rb, o, none⟩ = some v
  f : w.frozen? ⟨rb, o, none⟩ = false
  h : HoldsW bE 1 w v l
  n : l ≠ [] → ∀ b, v.ownBlock = some b → ¬ F b
/-- The document's ports at rb. -/
structure Dp (rb : Nat) (S : Po) (x y a b c d : Value) (w : World) : Prop where
  hold : Hold rb (rD S a b c d) w
  p : Inp rb 0 (foot rb (rD S a b c d)) x S.pub w
  s : Inp rb 1 (foot rb (rD S a b c d)) y S.sec w
theorem Inp.below {rb o : Nat} {F : Nat → Prop} {v : Value} {l : List Int} {w u : World} (h : Inp rb o F v l w) (hb : Below w.heap.size w u) : Inp rb o F v l u :=
  ⟨kc hb h.c, kfz hb (klt h.c) h.f, h.h.below hb, h.n⟩
theorem Dp.below {rb : Nat} {S : Po} {x y a b c d : Value} {w u : World} (h : Dp rb S x y a b c d w) (hb : Below w.heap.size w u) : Dp rb S x y a b c d u :=
  ⟨h.hold.below hb, h.p.below hb, h.s.below hb⟩
theorem Inp.fr {rb o : Nat} {F G : Nat → Prop} {v : Value} {l : List Int} {w u : World} (h : Inp rb o F v l w) (hf : Fr G w u) (hr : ¬ G rb) (hg : l ≠ [] → ∀ b, v.ownBlock = some b → ¬ G b) : Inp rb o F v l u :=
  ⟨hf.cell h.c hr, hf.frozen (klt h.c) h.f hr, h.h.fr hf hg, h.n⟩
/-- The last one of what went out. -/
def lastI (l : List Int) : Int := l.getLastD 0
def lastB (l : List (Int × Int)) : Int × Int := l.getLastD (0, 0)
theorem lastI_snoc (l : List Int) (m : Nat) (h : l.length = m + 1) : lastI l = l[m]'(by omega) := by
  unfold lastI
  have hne : l ≠ [] := by intro e; subst e; simp at h
  rw [List.getLastD_eq_getLast?, List.getLast?_eq_some_getLast hne, Option.getD_some, List.getLast_eq_getElem]
  congr 1; omega
theorem lastK_snoc (l : List (Int × Int)) (m : Nat) (h : l.length = m + 1) : lastB l = l[m]'(by omega) := by
  unfold lastB
  have hne : l ≠ [] := by intro e; subst e; simp at h
  rw [List.getLastD_eq_getLast?, List.getLast?_eq_some_getLast hne, Option.getD_some, List.getLast_eq_getElem]
  congr 1; omega
/-- What Read answers: V, T, the error; and what is left. -/
def rdPo (S : Po) (reg : Int) : Int × Int × Int :=
  if reg = 0 then (S.pub.headD 0, 0, 0) else if reg = 1 then (S.sec.headD 0, 255, 0) else if reg = 2 then (lastI S.out, 0, 0) else if reg = 3 then ((lastB S.kept).1, (lastB S.kept).2, 0) else if reg = 4 then (lastI S.told, 0, 0) else (0, 0, 10)
def readS (S : Po) (reg : Int) : Po := if reg = 0 then ⟨S.pub.tail, S.sec, S.out, S.kept, S.cyc, S.told⟩ else if reg = 1 then ⟨S.pub, S.sec.tail, S.out, S.kept, S.cyc, S.told⟩ else S
/-- What the document's Read leaves: what goes out lies where it lay. -/
def ReadEnd (rb : Nat) (S : Po) (x0 y0 a b c d : Value) (reg : Int) (w : World) : Ending → World → Prop := fun e w' =>
  e = .returned (.tuple #[.agg #[.int .u8 (rdPo S reg).1, .int .u8 (rdPo S reg).2.1], .int .i64 (rdPo S reg).2.2]) ∧ Fr (fun k => k = rb) w w' ∧ ∃ x y, Dp rb (readS S reg) x y a b c d w' ∧ ((readS S reg).pub ≠ [] → x.ownBlock = x0.ownBlock) ∧ ((readS S reg).sec ≠ [] → y.ownBlock = y0.ownBlock)
theorem port_cases (reg : Int) : reg = 0 ∨ reg = 1 ∨ reg = 2 ∨ reg = 3 ∨ reg = 4 ∨ (reg ≠ 0 ∧ reg ≠ 1 ∧ reg ≠ 2 ∧ reg ≠ 3 ∧ reg ≠ 4) := by omega
theorem rD_off (S : Po) (a b c d : Value) (o : Nat) (ho : o < 2) : ∀ (i : Nat) (r : Rw), (rD S a b c d)[i]? = some r → r.off ≠ o := fun i r hr => by
  match i, hr with
  | 0, hr => cases hr; dsimp only; omega
  | 1, hr => cases hr; dsimp only; omega
  | 2, hr => cases hr; dsimp only; omega
  | 3, hr => cases hr; dsimp only; omega
  | n + 4, hr => simp [rD] at hr
theorem Inp.ot {rb o o' : Nat} {F : Nat → Prop} {v : Value} {l : List Int} {w u : World} (h : Inp rb o F v l w) (hq : Ot rb o' w u) (hn : o ≠ o') (hF : F rb) : Inp rb o F v l u :=
  ⟨(hq.ot o hn).trans h.c, (hq.fz o).trans h.f, h.h.fr hq.fr (fun hl b hb e => h.n hl b hb (e ▸ hF)), h.n⟩
/-- Another slice in an input's cell. -/
theorem Dp.setP {rb : Nat} {S : Po} {x y a b c d : Value} {w u : World} (h : Dp rb S x y a b c d w) (hq : Ot rb 0 w u) (x' : Value) (l' : List Int) (hc : u.cell? ⟨rb, 0, none⟩ = some x') (hx : HoldsW bE 1 w x' l') (hn : l' ≠ [] → ∀ k, x'.ownBlock = some k → ¬ foot rb (rD S a b c d) k) :
    Dp rb ⟨l', S.sec, S.out, S.kept, S.cyc, S.told⟩ x' y a b c d u :=
  ⟨hq.hold h.hold (rD_off S a b c d 0 (by omega)), ⟨hc, (hq.fz 0).trans h.p.f, hx.fr hq.fr (fun hl k hk e => hn hl k hk (.inl e)), hn⟩, h.s.ot hq (by omega) (.inl rfl)⟩
theorem Dp.setS {rb : Nat} {S : Po} {x y a b c d : Value} {w u : World} (h : Dp rb S x y a b c d w) (hq : Ot rb 1 w u) (x' : Value) (l' : List Int) (hc : u.cell? ⟨rb, 1, none⟩ = some x') (hx : HoldsW bE 1 w x' l') (hn : l' ≠ [] → ∀ k, x'.ownBlock = some k → ¬ foot rb (rD S a b c d) k) :
    Dp rb ⟨S.pub, l', S.out, S.kept, S.cyc, S.told⟩ x x' a b c d u :=
  ⟨hq.hold h.hold (rD_off S a b c d 1 (by omega)), h.p.ot hq (by omega) (.inl rfl), ⟨hc, (hq.fz 1).trans h.s.f, hx.fr hq.fr (fun hl k hk e => hn hl k hk (.inl e)), hn⟩⟩
theorem readEnd_same {rb : Nat} {S : Po} {x y a b c d : Value} {reg V T E : Int} {w w' : World} (hR : rdPo S reg = (V, T, E)) (hS : readS S reg = S) (h : Dp rb S x y a b c d w) (hb : Below w.heap.size w w') :
    ReadEnd rb S x y a b c d reg w (.returned (.tuple #[.agg #[.int .u8 V, .int .u8 T], .int .i64 E])) w' := by
  refine ⟨by rw [hR], Fr.ofBelow hb, x, y, ?_, fun _ => rfl, fun _ => rfl⟩
  rw [hS]; exact h.below hb
theorem readEnd_p {rb : Nat} {S : Po} {x y a b c d x' : Value} {V T E : Int} {r : List Int} {w u : World} (hR : rdPo S 0 = (V, T, E)) (hS : readS S 0 = ⟨r, S.sec, S.out, S.kept, S.cyc, S.told⟩) (h : Dp rb S x y a b c d w) (hq : Ot rb 0 w u)
    (hx : HoldsW bE 1 w x' r) (hc : u.cell? ⟨rb, 0, none⟩ = some x') (hn : r ≠ [] → ∀ k, x'.ownBlock = some k → ¬ foot rb (rD S a b c d) k) (he : r ≠ [] → x'.ownBlock = x.ownBlock) :
    ReadEnd rb S x y a b c d 0 w (.returned (.tuple #[.agg #[.int .u8 V, .int .u8 T], .int .i64 E])) u := by
  refine ⟨by rw [hR], hq.fr, x', y, ?_, by rw [hS]; exact he, fun _ => rfl⟩
  rw [hS]
  exact h.setP hq x' r hc hx hn
theorem readEnd_s {rb : Nat} {S : Po} {x y a b c d x' : Value} {V T E : Int} {r : List Int} {w u : World} (hR : rdPo S 1 = (V, T, E)) (hS : readS S 1 = ⟨S.pub, r, S.out, S.kept, S.cyc, S.told⟩) (h : Dp rb S x y a b c d w) (hq : Ot rb 1 w u)
    (hx : HoldsW bE 1 w x' r) (hc : u.cell? ⟨rb, 1, none⟩ = some x') (hn : r ≠ [] → ∀ k, x'.ownBlock = some k → ¬ foot rb (rD S a b c d) k) (he : r ≠ [] → x'.ownBlock = y.ownBlock) :
    ReadEnd rb S x y a b c d 1 w (.returned (.tuple #[.agg #[.int .u8 V, .int .u8 T], .int .i64 E])) u := by
  refine ⟨by rw [hR], hq.fr, x, x', ?_, fun _ => rfl, by rw [hS]; exact he⟩
  rw [hS]
  exact h.setS hq x' r hc hx hn
/-- What is left of an input. -/
theorem holds_tail {w : World} {g o n c k : Nat} {x : Int} {r : List Int} (hn : r.length = n) (h : ∀ j (z : Int), (x :: r)[j]? = some z → ∀ i u, (bE z)[i]? = some u → w.cell? ⟨g, o + j * 1 + i, none⟩ = some u) (hk : n ≤ k) : HoldsW bE 1 w (.slice (some ⟨g, o + 1, none⟩) n k) r := by
  subst hn
  refine .inr ⟨g, o + 1, k, rfl, hk, fun j z hz i u hu => ?_⟩
  have := h (j + 1) z (by simpa using hz) i u hu
  rw [show o + (j + 1) * 1 + i = o + 1 + j * 1 + i by omega] at this
  exact this
end Go.Proofs.YtcnejgilmciljaaDoor
