/-
  WheelTurns: what turns and steps come to; what its walk keeps.
-/
import Derived.Test.YtkabpnchfhkhgaaNilWalk12
set_option linter.unusedSimpArgs false
set_option linter.unusedVariables false
namespace Go.Proofs.Ytkabpnchfhkhgaa
open Go.RowKit Go.PlainAid

theorem backI_mod (n : Int) : (n - backI n) % 256 = 0 := by
  have := tmod256 n
  have h : (n - n.tmod 256) % 256 = 0 := by
    have := Int.mul_tdiv_add_tmod n 256
    omega
  unfold backI
  split
  · omega
  · split <;> omega
theorem backI_eq {m n : Int} (h : (m - n) % 256 = 0) : backI m = backI n := by
  have h1 := backI_mod m
  have h2 := backI_mod n
  have h3 := backI_may m
  have h4 := backI_may n
  omega
theorem backI_add (n d : Int) : backI (backI n + d) = backI (n + d) := backI_eq (by have := backI_mod n; omega)
theorem backI_idem (n : Int) : backI (backI n) = backI n := backI_eq (by have := backI_mod n; omega)
theorem backI_is {m x : Int} (hx : -128 ≤ x ∧ x ≤ 127) (h : m = x) : backI m = x := by
  subst h
  have h1 := backI_mod m
  have h2 := backI_may m
  omega
theorem zF_self {n : Int} (h : n.natAbs < 2 ^ 53) : (FloatKind.f64.format.order (zF n) (zF n) == some .eq) = true := by
  rw [zF_eq h h, decide_eq_true rfl]
/-- Where two are, and how they look, is the same. -/
def Alike (R T : Wh) : Prop := R.x = T.x ∧ R.y = T.y ∧ R.q = T.q
def itW (R : Wh) (b : Int) : Nat → Wh
  | 0 => R
  | k + 1 => rollW (itW R b k) b
theorem turn_one {q t : Int} (hq : 0 ≤ q ∧ q ≤ 3) (ht : 0 ≤ t) : turnQ q (4 * t + 1) = if q = 3 then 0 else q + 1 := by
  unfold turnQ
  have e : (4 * t + 1).tmod 4 = 1 := by rw [Int.tmod_eq_emod_of_nonneg (by omega)]; omega
  rw [e, Int.tmod_eq_emod_of_nonneg (by omega)]
  split <;> omega
theorem turn_none {q t : Int} (hq : 0 ≤ q ∧ q ≤ 3) (ht : 0 ≤ t) : turnQ q (4 * t) = q := by
  unfold turnQ
  have e : (4 * t).tmod 4 = 0 := by rw [Int.tmod_eq_emod_of_nonneg (by omega)]; omega
  rw [e, Int.tmod_eq_emod_of_nonneg (by omega)]
  omega
theorem steps_one {t : Int} (ht : 0 ≤ t) : (4 * t + 1).tdiv 4 = t := by rw [Int.tdiv_eq_ediv_of_nonneg (by omega)]; omega
theorem steps_none {t : Int} (ht : 0 ≤ t) : (4 * t).tdiv 4 = t := by rw [Int.tdiv_eq_ediv_of_nonneg (by omega)]; omega
/-- Four turns by one quarter, as many steps behind each, are none. -/
theorem four_turns {R : Wh} (h : R.May) {t : Int} (ht : 0 ≤ t ∧ t ≤ 31) : Alike (itW R (4 * t + 1) 4) R := by
  obtain ⟨x, y, q, b⟩ := R
  have hx := h.x
  have hy := h.y
  have hq := h.q
  dsimp only at hx hy hq
  unfold Alike
  simp only [itW, rollW, steps_one ht.1]
  rcases way_cases hq with rfl | rfl | rfl | rfl
  all_goals
    have t0 := turn_one (q := 0) (t := t) (by omega) ht.1
    have t1 := turn_one (q := 1) (t := t) (by omega) ht.1
    have t2 := turn_one (q := 2) (t := t) (by omega) ht.1
    have t3 := turn_one (q := 3) (t := t) (by omega) ht.1
    rw [if_neg (by omega)] at t0 t1 t2
    rw [if_pos rfl] at t3
    simp only [Int.zero_add, show (1 : Int) + 1 = 2 from rfl, show (2 : Int) + 1 = 3 from rfl] at t0 t1 t2
    simp only [t0, t1, t2, t3]
    simp only [show waysX 0 = 1 from rfl, show waysX 1 = 0 from rfl, show waysX 2 = -1 from rfl, show waysX 3 = 0 from rfl, show waysY 0 = 0 from rfl, show waysY 1 = 1 from rfl, show waysY 2 = 0 from rfl, show waysY 3 = -1 from rfl, Int.mul_zero, Int.mul_one, Int.add_zero, Int.mul_neg]
    simp only [backI_add, backI_idem]
    exact ⟨backI_is hx (by omega), backI_is hy (by omega), trivial⟩
/-- Steps of two writes without a turn are steps of both. -/
theorem two_steps {R Q : Wh} (h : R.May) (hQ : Alike Q R) {t u : Int} (ht : 0 ≤ t ∧ t ≤ 31) (hu : 0 ≤ u ∧ u ≤ 31) :
    Alike (rollW (rollW R (4 * t)) (4 * u)) (rollW Q (4 * (t + u))) ∧ (rollW (rollW R (4 * t)) (4 * u)).q = R.q ∧ (rollW Q (4 * (t + u))).q = R.q := by
  obtain ⟨e1, e2, e3⟩ := hQ
  have hq := h.q
  unfold Alike
  simp only [rollW, steps_none ht.1, steps_none hu.1, steps_none (show 0 ≤ t + u by omega), turn_none hq ht.1, turn_none hq hu.1, turn_none hq (show 0 ≤ t + u by omega), e1, e2, e3, backI_add]
  refine ⟨⟨?_, ?_, trivial⟩, trivial, trivial⟩
  · rw [Int.add_mul, Int.add_assoc]
  · rw [Int.add_mul, Int.add_assoc]
theorem itW_may {R : Wh} (h : R.May) {b : Int} (hb : 0 ≤ b ∧ b ≤ 255) : ∀ k, (itW R b k).May
  | 0 => h
  | k + 1 => rollW_may (itW_may h hb k) hb
/-- Write of a turn. -/
theorem wturn_c (wb : Nat) (R : Wh) (hR : R.May) (v : Int) (hv : 0 ≤ v ∧ v ≤ 255) (w : World) (h : Pw wb R w) :
    Calls Try.prog 11 #[.pointer (some ⟨wb, 0, none⟩), .int .i64 0, .agg #[.int .u8 v, .int .u8 0]] w fun e w' => e = .returned (.tuple #[.int .i64 0, .int .i64 0]) ∧ Pw wb (rollW R v) w' ∧ Fr (fun k => k = wb) w w' := by
  have := wwrite_c wb R hR 0 v 0 hv w h
  unfold WrEnd at this
  have e : wrS R 0 v 0 = rollW R v := by unfold wrS; rw [if_pos ⟨rfl, rfl⟩]
  rw [e] at this
  exact this
/-- A wheel beside the two numbers. -/
structure TurnI (w : World) (wb lb : Nat) (a b : Int) (R : Wh) (wr : World) : Prop where
  pw : Pw wb R wr
  mw : R.May
  c0 : wr.cell? ⟨lb, 0, none⟩ = some (.int .i64 a)
  c1 : wr.cell? ⟨lb, 1, none⟩ = some (.int .i64 b)
  bel : Below w.heap.size w wr
  ge : w.heap.size ≤ wb ∧ w.heap.size ≤ lb
  ne : wb ≠ lb
section
variable {w wr u : World} {vb wb lb : Nat} {a b : Int} {R R' T : Wh}
theorem TurnI.below (h : TurnI w wb lb a b R wr) (hb : Below wr.heap.size wr u) : TurnI w wb lb a b R u :=
  ⟨h.pw.below hb, h.mw, kc hb h.c0, kc hb h.c1, h.bel.trans (hb.mono h.bel.size), h.ge, h.ne⟩
theorem TurnI.step (h : TurnI w wb lb a b R wr) (hp : Pw wb R' u) (hm : R'.May) (hf : Fr (fun k => k = wb) wr u) : TurnI w wb lb a b R' u :=
  ⟨hp, hm, hf.cell h.c0 (fun e => h.ne e.symm), hf.cell h.c1 (fun e => h.ne e.symm), Fr.toBelow h.bel hf (fun k e => by subst e; exact h.ge.1) (Nat.le_refl _), h.ge, h.ne⟩
end
/-- A clone besides. -/
structure TurnJ (w : World) (wb vb lb : Nat) (a b : Int) (R T : Wh) (wr : World) : Prop where
  i : TurnI w wb lb a b R wr
  pv : Pw vb T wr
  mv : T.May
  ge : w.heap.size ≤ vb
  ne : vb ≠ wb ∧ vb ≠ lb
section
variable {w wr u : World} {vb wb lb : Nat} {a b : Int} {R R' T : Wh}
theorem TurnJ.below (h : TurnJ w wb vb lb a b R T wr) (hb : Below wr.heap.size wr u) : TurnJ w wb vb lb a b R T u :=
  ⟨h.i.below hb, h.pv.below hb, h.mv, h.ge, h.ne⟩
theorem TurnJ.stepW (h : TurnJ w wb vb lb a b R T wr) (hp : Pw wb R' u) (hm : R'.May) (hf : Fr (fun k => k = wb) wr u) : TurnJ w wb vb lb a b R' T u :=
  ⟨h.i.step hp hm hf, h.pv.fr hf (fun e => h.ne.1 e), h.mv, h.ge, h.ne⟩
theorem TurnJ.stepV (h : TurnJ w wb vb lb a b R T wr) (hp : Pw vb R' u) (hm : R'.May) (hf : Fr (fun k => k = vb) wr u) : TurnJ w wb vb lb a b R R' u :=
  ⟨⟨h.i.pw.fr hf (fun e => h.ne.1 e.symm), h.i.mw, hf.cell h.i.c0 (fun e => h.ne.2 e.symm), hf.cell h.i.c1 (fun e => h.ne.2 e.symm), Fr.toBelow h.i.bel hf (fun k e => by subst e; exact h.ge) (Nat.le_refl _), h.i.ge, h.i.ne⟩, hp, hm, h.ge, h.ne⟩
theorem TurnI.made (h : TurnI w wb lb a b R wr) (hb : Below wr.heap.size wr u) (hp : Pw vb R u) (hc : wr.heap.size ≤ vb) : TurnJ w wb vb lb a b R R u := by
  have l1 := h.pw.lt
  have l2 := klt h.c0
  have hz := h.bel.size
  exact ⟨h.below hb, hp, h.mw, by omega, by omega, by omega⟩
end
end Go.Proofs.Ytkabpnchfhkhgaa
