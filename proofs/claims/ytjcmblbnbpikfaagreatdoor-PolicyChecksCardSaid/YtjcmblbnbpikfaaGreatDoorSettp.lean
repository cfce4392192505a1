/-
  Layer 7, the program's reader: the rest of a line of a number that there may be once: what it comes to.
-/
import Derived.Test.YtjcmblbnbpikfaaGreatDoorSpanp
set_option linter.unusedSimpArgs false
set_option linter.unusedVariables false
namespace Go.Proofs.YtjcmblbnbpikfaaGreatDoor
open Go.RowKit Go.PlainAid

structure SeO where
  e : Int
  li : Int
  co : Int
  n : Int
  r : List Tk
def settM (told : Bool) (may : Int → Bool) (word : Tk) : List Tk → SeO
  | [] => ⟨11, 0, 0, 0, []⟩
  | a :: r => if a.k = 2 then (match r with
      | [] => ⟨11, 0, 0, 0, []⟩
      | z :: r2 => if z.k = 4 then (if told = true then ⟨16, word.line, word.col, 0, []⟩ else if may a.n = true then ⟨0, 0, 0, a.n, r2⟩ else ⟨10, a.line, a.col, 0, []⟩) else ⟨11, z.line, z.col, 0, []⟩)
    else ⟨11, a.line, a.col, 0, []⟩
def SetEnd (rb S0 : Nat) (v : Value) (w : World) (s2 : SeO → St) (o : SeO) : Ending → World → Prop := fun e w' =>
  (o.e ≠ 0 → e = .returned (.tuple #[.agg #[.int .i64 o.li, .int .i64 o.co], .int .i64 o.e]) ∧ Tur rb S0 v w w') ∧
  (o.e = 0 → e = .returned (.tuple #[.agg #[.int .i64 0, .int .i64 0], .int .i64 0]) ∧ Rd rb S0 w' (s2 o) ∧ Tur rb S0 v w w')
theorem setEnd_err {rb S0 : Nat} {v : Value} {w w' : World} {s2 : SeO → St} {o : SeO} {E L C : Int} (h1 : o.e = E) (h2 : o.li = L) (h3 : o.co = C) (hE : E ≠ 0) (ht : Tur rb S0 v w w') : SetEnd rb S0 v w s2 o (.returned (.tuple #[.agg #[.int .i64 L, .int .i64 C], .int .i64 E])) w' := by
  subst h1; subst h2; subst h3
  exact ⟨fun _ => ⟨rfl, ht⟩, fun h => absurd h hE⟩
theorem setEnd_ok {rb S0 : Nat} {v : Value} {w w' : World} {s2 : SeO → St} {o : SeO} (h1 : o.e = 0) (hR : Rd rb S0 w' (s2 o)) (ht : Tur rb S0 v w w') : SetEnd rb S0 v w s2 o (.returned (.tuple #[.agg #[.int .i64 0, .int .i64 0], .int .i64 0])) w' :=
  ⟨fun h => absurd h1 h, fun _ => ⟨rfl, hR, ht⟩⟩
theorem Tur.set {rb S0 : Nat} {y : Value} {w u : World} (h : Tur rb S0 y w u) (o : Nat) (v : Value) : Tur rb S0 y w (u.setCell ⟨rb, o, none⟩ v) :=
  ⟨h.below.setCell (Nat.le_refl _) v, fun b hb hne => (Below.heap_setCell u _ v b (by exact hne)).trans (h.keep b hb hne), fun b hb hne hn => (Below.heap_setCell u _ v b (by exact hne)).trans (h.keep2 b hb hne hn)⟩
/-- A store into one of the reader's numbers. -/
theorem Rd.setD {rb S0 : Nat} {w : World} {l : List Tk} {sp : List Mk} {sv : Value} {dn tn : Int} {db tb : Bool} (h : Rd rb S0 w ⟨l, sp, sv, dn, db, tn, tb⟩) (n : Int) (b : Bool) :
    Rd rb S0 ((w.setCell ⟨rb, 2, none⟩ (.int .i64 n)).setCell ⟨rb, 3, none⟩ (.bool b)) ⟨l, sp, sv, n, b, tn, tb⟩ := by
  have k0 := h.lt
  obtain ⟨x, a1, a2, a3⟩ := h.left
  obtain ⟨b1, b2⟩ := h.row
  obtain ⟨c2, c3, c4, c5⟩ := And.intro h.c2 (And.intro h.c3 (And.intro h.c4 h.c5))
  have ot : ∀ o y, o ≠ 2 → o ≠ 3 → w.cell? ⟨rb, o, none⟩ = some y → ((w.setCell ⟨rb, 2, none⟩ (.int .i64 n)).setCell ⟨rb, 3, none⟩ (.bool b)).cell? ⟨rb, o, none⟩ = some y := fun o y h2 h3 hy => by
    rw [World.cell?_setCell_other _ _ _ _ (by intro e; cases e; exact h3 rfl), World.cell?_setCell_other _ _ _ _ (by intro e; cases e; exact h2 rfl)]; exact hy
  refine ⟨⟨x, ot 0 _ (by omega) (by omega) a1, ?_, a3⟩, ⟨ot 1 _ (by omega) (by omega) b1, own_other (own_other b2 k0) k0⟩, ?_, ?_, ot 4 _ (by omega) (by omega) c4, ot 5 _ (by omega) (by omega) c5, fun o ho => by rw [World.frozen?_setCell, World.frozen?_setCell]; exact h.fr o ho, k0, by rw [World.size_setCell, World.size_setCell]; exact h.sz⟩
  · rcases a2 with a2 | ⟨g, q, cap, e, hc, a2⟩
    · exact .inl a2
    · have hg := a3 g (by rw [e]; rfl)
      have hs : ∀ o' y, w.cell? ⟨g, o', none⟩ = some y → ((w.setCell ⟨rb, 2, none⟩ (.int .i64 n)).setCell ⟨rb, 3, none⟩ (.bool b)).cell? ⟨g, o', none⟩ = some y := fun o' y hy => (World.cell?_of_block ((Below.heap_setCell _ _ _ g (by show g ≠ rb; omega)).trans (Below.heap_setCell w _ _ g (by show g ≠ rb; omega)))).trans hy
      exact .inr ⟨g, q, cap, e, hc, fun j x hx => by obtain ⟨c0, c1, c2, c3, c4⟩ := a2 j x hx; exact ⟨hs _ _ c0, hs _ _ c1, hs _ _ c2, hs _ _ c3, hs _ _ c4⟩⟩
  · rw [World.cell?_setCell_other _ _ _ _ (by intro e; cases e)]
    exact World.cell?_setCell_same _ _ _ c2
  · exact World.cell?_setCell_same _ _ _ (by rw [World.cell?_setCell_other _ _ _ _ (by intro e; cases e)]; exact c3)
theorem Rd.setT {rb S0 : Nat} {w : World} {l : List Tk} {sp : List Mk} {sv : Value} {dn tn : Int} {db tb : Bool} (h : Rd rb S0 w ⟨l, sp, sv, dn, db, tn, tb⟩) (n : Int) (b : Bool) :
    Rd rb S0 ((w.setCell ⟨rb, 4, none⟩ (.int .i64 n)).setCell ⟨rb, 5, none⟩ (.bool b)) ⟨l, sp, sv, dn, db, n, b⟩ := by
  have k0 := h.lt
  obtain ⟨x, a1, a2, a3⟩ := h.left
  obtain ⟨b1, b2⟩ := h.row
  obtain ⟨c2, c3, c4, c5⟩ := And.intro h.c2 (And.intro h.c3 (And.intro h.c4 h.c5))
  have ot : ∀ o y, o ≠ 4 → o ≠ 5 → w.cell? ⟨rb, o, none⟩ = some y → ((w.setCell ⟨rb, 4, none⟩ (.int .i64 n)).setCell ⟨rb, 5, none⟩ (.bool b)).cell? ⟨rb, o, none⟩ = some y := fun o y h2 h3 hy => by
    rw [World.cell?_setCell_other _ _ _ _ (by intro e; cases e; exact h3 rfl), World.cell?_setCell_other _ _ _ _ (by intro e; cases e; exact h2 rfl)]; exact hy
  refine ⟨⟨x, ot 0 _ (by omega) (by omega) a1, ?_, a3⟩, ⟨ot 1 _ (by omega) (by omega) b1, own_other (own_other b2 k0) k0⟩, ot 2 _ (by omega) (by omega) c2, ot 3 _ (by omega) (by omega) c3, ?_, ?_, fun o ho => by rw [World.frozen?_setCell, World.frozen?_setCell]; exact h.fr o ho, k0, by rw [World.size_setCell, World.size_setCell]; exact h.sz⟩
  · rcases a2 with a2 | ⟨g, q, cap, e, hc, a2⟩
    · exact .inl a2
    · have hg := a3 g (by rw [e]; rfl)
      have hs : ∀ o' y, w.cell? ⟨g, o', none⟩ = some y → ((w.setCell ⟨rb, 4, none⟩ (.int .i64 n)).setCell ⟨rb, 5, none⟩ (.bool b)).cell? ⟨g, o', none⟩ = some y := fun o' y hy => (World.cell?_of_block ((Below.heap_setCell _ _ _ g (by show g ≠ rb; omega)).trans (Below.heap_setCell w _ _ g (by show g ≠ rb; omega)))).trans hy
      exact .inr ⟨g, q, cap, e, hc, fun j x hx => by obtain ⟨c0, c1, c2, c3, c4⟩ := a2 j x hx; exact ⟨hs _ _ c0, hs _ _ c1, hs _ _ c2, hs _ _ c3, hs _ _ c4⟩⟩
  · rw [World.cell?_setCell_other _ _ _ _ (by intro e; cases e)]
    exact World.cell?_setCell_same _ _ _ c4
  · exact World.cell?_setCell_same _ _ _ (by rw [World.cell?_setCell_other _ _ _ _ (by intro e; cases e)]; exact c5)
end Go.Proofs.YtjcmblbnbpikfaaGreatDoor
