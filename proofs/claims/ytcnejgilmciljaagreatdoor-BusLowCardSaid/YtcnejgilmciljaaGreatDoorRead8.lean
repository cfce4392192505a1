/-
  The document's wheel: Back, Ways, Write.
  The document's bus: its timer, its wheel, its cycles; what is not turned (gent13.py writes the wheel's part).
  Layer 8's document: Read, and Write.
-/
import Derived.Test.YtcnejgilmciljaaGreatDoorNum12
import Derived.Test.YtcnejgilmciljaaGreatDoorGrown
import Derived.Test.YtcnejgilmciljaaGreatDoorDbr13
import Derived.Test.YtcnejgilmciljaaGreatDoorRow10
import Derived.Test.YtcnejgilmciljaaGreatDoorAt8
set_option linter.unusedSimpArgs false
set_option linter.unusedVariables false
namespace Go.Proofs.YtcnejgilmciljaaGreatDoor
open Go.RowKit Go.PlainAid

/-- Brought back. -/
def backI (n : Int) : Int := if n.tmod 256 < -128 then n.tmod 256 + 256 else if 127 < n.tmod 256 then n.tmod 256 - 256 else n.tmod 256
theorem tmod256 (n : Int) : -255 ≤ n.tmod 256 ∧ n.tmod 256 ≤ 255 := by
  rcases Int.lt_or_le n 0 with h | h
  · have e : n = -(-n) := by omega
    rw [e, Int.neg_tmod, Int.tmod_eq_emod_of_nonneg (by omega)]
    omega
  · rw [Int.tmod_eq_emod_of_nonneg h]
    omega
theorem backI_may (n : Int) : -128 ≤ backI n ∧ backI n ≤ 127 := by
  have := tmod256 n
  unfold backI
  split
  · omega
  · split <;> omega
set_option maxRecDepth 100000 in
theorem back_c (n : Int) (w : World) : Calls Tryz.prog 78 #[.int .i64 n] w fun e w' => e = .returned (.int .i64 (backI n)) ∧ Below w.heap.size w w' := by
  have hm := tmod256 n
  unfold backI
  obtain ⟨r, hr⟩ : ∃ r, n.tmod 256 = r := ⟨_, rfl⟩
  rw [hr] at hm ⊢
  by_cases h1 : r < -128
  · have hw : IntKind.i64.wrap (r + 256) = r + 256 := IntWalk.i64_in _ (by omega)
    have hw2 : IntKind.i64.wrap r = r := IntWalk.i64_in _ (by omega)
    rw [if_pos h1]
    go_enter Tryz.func78, Tryz.ntmps78
    go_wp2
    go_ret
    exact ⟨rfl, by go_grown⟩
  · rw [if_neg h1]
    have hw2 : IntKind.i64.wrap r = r := IntWalk.i64_in _ (by omega)
    by_cases h2 : 127 < r
    · have hw : IntKind.i64.wrap (r - 256) = r - 256 := IntWalk.i64_in _ (by omega)
      rw [if_pos h2]
      go_enter Tryz.func78, Tryz.ntmps78
      go_wp2
      go_ret
      exact ⟨rfl, by go_grown⟩
    · rw [if_neg h2]
      go_enter Tryz.func78, Tryz.ntmps78
      go_wp2
      go_ret
      exact ⟨rfl, by go_grown⟩
def waysX (q : Int) : Int := if q = 0 then 1 else if q = 1 then 0 else if q = 2 then -1 else 0
def waysY (q : Int) : Int := if q = 0 then 0 else if q = 1 then 1 else if q = 2 then 0 else -1
theorem way_cases {q : Int} (h : 0 ≤ q ∧ q ≤ 3) : q = 0 ∨ q = 1 ∨ q = 2 ∨ q = 3 := by omega
set_option maxRecDepth 100000 in
theorem ways_c (q : Int) (h : 0 ≤ q ∧ q ≤ 3) (w : World) : Calls Tryz.prog 77 #[.int .i64 q] w fun e w' => e = .returned (.tuple #[.int .i64 (waysX q), .int .i64 (waysY q)]) ∧ Below w.heap.size w w' := by
  rcases way_cases h with rfl | rfl | rfl | rfl
  all_goals
    go_enter Tryz.func77, Tryz.ntmps77
    go_wp2
    go_ret2
    exact ⟨rfl, by go_grown⟩
/-- A wheel: x, y, how many quarters, the byte that was written last. -/
structure Wh where
  x : Int
  y : Int
  q : Int
  b : Int
structure Wh.May (R : Wh) : Prop where
  x : -128 ≤ R.x ∧ R.x ≤ 127
  y : -128 ≤ R.y ∧ R.y ≤ 127
  q : 0 ≤ R.q ∧ R.q ≤ 3
  b : 0 ≤ R.b ∧ R.b ≤ 255
/-- What becomes of it. -/
def turnQ (q b : Int) : Int := (q + b.tmod 4).tmod 4
def rollW (R : Wh) (b : Int) : Wh := ⟨backI (R.x + b.tdiv 4 * waysX (turnQ R.q b)), backI (R.y + b.tdiv 4 * waysY (turnQ R.q b)), turnQ R.q b, b⟩
theorem quarter_may {b : Int} (h : 0 ≤ b ∧ b ≤ 255) : (0 ≤ b.tmod 4 ∧ b.tmod 4 ≤ 3) ∧ 0 ≤ b.tdiv 4 ∧ b.tdiv 4 ≤ 63 := by
  rw [Int.tmod_eq_emod_of_nonneg h.1, Int.tdiv_eq_ediv_of_nonneg h.1]
  omega
theorem turnQ_may {q b : Int} (hq : 0 ≤ q ∧ q ≤ 3) (h : 0 ≤ b ∧ b ≤ 255) : 0 ≤ turnQ q b ∧ turnQ q b ≤ 3 := by
  have := (quarter_may h).1
  unfold turnQ
  rw [Int.tmod_eq_emod_of_nonneg (by omega)]
  omega
theorem rollW_may {R : Wh} (h : R.May) {b : Int} (hb : 0 ≤ b ∧ b ≤ 255) : (rollW R b).May := ⟨backI_may _, backI_may _, turnQ_may h.q hb, hb⟩
def whV (R : Wh) : List Value := [.int .i64 R.x, .int .i64 R.y, .int .i64 R.q, .int .u8 R.b]
/-- The document's wheel at rb. -/
structure Rh (rb : Nat) (R : Wh) (w : World) : Prop where
  c0 : w.cell? ⟨rb, 0, none⟩ = some (.int .i64 R.x)
  c1 : w.cell? ⟨rb, 1, none⟩ = some (.int .i64 R.y)
  c2 : w.cell? ⟨rb, 2, none⟩ = some (.int .i64 R.q)
  c3 : w.cell? ⟨rb, 3, none⟩ = some (.int .u8 R.b)
  f : ∀ i, i < 4 → w.frozen? ⟨rb, i, none⟩ = false
theorem Rh.fr {rb : Nat} {R : Wh} {w u : World} {H : Nat → Prop} (h : Rh rb R w) (hf : Fr H w u) (hn : ¬ H rb) : Rh rb R u :=
  ⟨hf.cell h.c0 hn, hf.cell h.c1 hn, hf.cell h.c2 hn, hf.cell h.c3 hn, fun i hi => hf.frozen (klt h.c0) (h.f i hi) hn⟩
theorem Rh.below {rb : Nat} {R : Wh} {w u : World} (h : Rh rb R w) (hb : Below w.heap.size w u) : Rh rb R u := h.fr (Fr.ofBelow (F := fun _ => False) hb) (fun f => f)
theorem step_b {W n x d : Int} (hx : -128 ≤ x ∧ x ≤ 127) (hn : 0 ≤ n ∧ n ≤ 63) (hd : d = 0 ∨ d = 1 ∨ d = -1) : (-63 ≤ n * d ∧ n * d ≤ 63) ∧ -9223372036854775808 ≤ x + n * d ∧ x + n * d ≤ 9223372036854775807 := by
  rcases hd with rfl | rfl | rfl <;> simp <;> omega
theorem waysX_of (q : Int) : waysX q = 0 ∨ waysX q = 1 ∨ waysX q = -1 := by
  unfold waysX
  split
  · exact .inr (.inl rfl)
  · split
    · exact .inl rfl
    · split
      · exact .inr (.inr rfl)
      · exact .inl rfl
theorem waysY_of (q : Int) : waysY q = 0 ∨ waysY q = 1 ∨ waysY q = -1 := by
  unfold waysY
  split
  · exact .inl rfl
  · split
    · exact .inr (.inl rfl)
    · split
      · exact .inl rfl
      · exact .inr (.inr rfl)
set_option maxRecDepth 100000 in
set_option maxHeartbeats 2000000 in
theorem rwrite_c (rb : Nat) (R : Wh) (hR : R.May) (b : Int) (hb : 0 ≤ b ∧ b ≤ 255) (w : World) (h : Rh rb R w) :
    Calls Tryz.prog 45 #[.pointer (some ⟨rb, 0, none⟩), .int .u8 b] w fun e w' => e = .returned (.tuple #[]) ∧ Rh rb (rollW R b) w' ∧ Fr (fun k => k = rb) w w' := by
  obtain ⟨c0, c1, c2, c3, f⟩ := h
  have f0 := f 0 (by omega)
  have f1 := f 1 (by omega)
  have f2 := f 2 (by omega)
  have f3 := f 3 (by omega)
  have hlt := klt c0
  have hQ := turnQ_may hR.q hb
  have hq4 := quarter_may hb
  have HX := Lib.hid (step_b (W := 0) hR.x hq4.2 (waysX_of (turnQ R.q b)))
  have HY := Lib.hid (step_b (W := 0) hR.y hq4.2 (waysY_of (turnQ R.q b)))
  have HW := Lib.hid (fun W => ways_c (turnQ R.q b) hQ W)
  have hRq := hR.q
  unfold rollW
  obtain ⟨rx, ry, rq, rbb⟩ := R
  dsimp only at *
  obtain ⟨Q, hQe⟩ : ∃ Q, turnQ rq b = Q := ⟨_, rfl⟩
  have hQ1 := hQe
  unfold turnQ at hQ1
  rw [hQe] at HX HY HW hQ ⊢
  obtain ⟨m, hm⟩ : ∃ m, b.tmod 4 = m := ⟨_, rfl⟩
  obtain ⟨n, hn⟩ : ∃ n, b.tdiv 4 = n := ⟨_, rfl⟩
  rw [hm] at hQ1 hq4
  rw [hn] at HX HY hq4 ⊢
  have w1 : IntKind.i64.wrap b = b := IntWalk.i64_in _ (by omega)
  have w2 : IntKind.i64.wrap m = m := IntWalk.i64_in _ (by omega)
  have w3 : IntKind.i64.wrap (rq + m) = rq + m := IntWalk.i64_in _ (by omega)
  have w4 : IntKind.i64.wrap Q = Q := IntWalk.i64_in _ (by omega)
  have w5 : IntKind.i64.wrap n = n := IntWalk.i64_in _ (by omega)
  have w6 : IntKind.i64.wrap (n * waysX Q) = n * waysX Q := IntWalk.i64_in _ (by have := HX.out.1; omega)
  have w7 : IntKind.i64.wrap (n * waysY Q) = n * waysY Q := IntWalk.i64_in _ (by have := HY.out.1; omega)
  have w8 : IntKind.i64.wrap (rx + n * waysX Q) = rx + n * waysX Q := IntWalk.i64_in _ HX.out.2
  have w9 : IntKind.i64.wrap (ry + n * waysY Q) = ry + n * waysY Q := IntWalk.i64_in _ HY.out.2
  generalize waysX Q = wx at *
  generalize waysY Q = wy at *
  clear f hR hb hQ hq4 hQe hRq
  go_enter Tryz.func45, Tryz.ntmps45
  go_wp2_with fail
  have F1 := Lib.hid (((Fr.refl (fun k => k = rb) w).setCell ⟨rb, 3, none⟩ (.int .u8 b) (fun _ => rfl)).setCell ⟨rb, 2, none⟩ (.int .i64 Q) (fun _ => rfl))
  refine (HW.out _).mono ?_
  rintro _ u ⟨rfl, hb1⟩
  have F2 := Lib.hid (F1.out.trans (Fr.ofBelow (F := fun _ => False) hb1) (fun _ _ f => f.elim))
  have d0 : u.cell? ⟨rb, 0, none⟩ = some (.int .i64 rx) := kc hb1 (by go_simp; first | done | rfl)
  have d1 : u.cell? ⟨rb, 1, none⟩ = some (.int .i64 ry) := kc hb1 (by go_simp; first | done | rfl)
  have d2 : u.cell? ⟨rb, 2, none⟩ = some (.int .i64 Q) := kc hb1 (by go_simp; first | done | rfl)
  have d3 : u.cell? ⟨rb, 3, none⟩ = some (.int .u8 b) := kc hb1 (by go_simp; first | done | rfl)
  have e0 : u.frozen? ⟨rb, 0, none⟩ = false := kfz hb1 (by go_size) (by go_simp)
  have e1 : u.frozen? ⟨rb, 1, none⟩ = false := kfz hb1 (by go_size) (by go_simp)
  have e2 : u.frozen? ⟨rb, 2, none⟩ = false := kfz hb1 (by go_size) (by go_simp)
  have e3 : u.frozen? ⟨rb, 3, none⟩ = false := kfz hb1 (by go_size) (by go_simp)
  have hlu := klt d0
  clear hb1 F1 c0 c1 c2 c3 f0 f1 f2 f3 hlt
  go_wp2_with fail
  refine (back_c _ _).mono ?_
  rintro _ u2 ⟨rfl, hb1⟩
  have d0 := kc hb1 d0
  have d1 := kc hb1 d1
  have d2 := kc hb1 d2
  have d3 := kc hb1 d3
  have e0 := kfz hb1 hlu e0
  have e1 := kfz hb1 hlu e1
  have e2 := kfz hb1 hlu e2
  have e3 := kfz hb1 hlu e3
  have hlu2 := klt d0
  have F3 := Lib.hid ((F2.out.trans (Fr.ofBelow (F := fun _ => False) hb1) (fun _ _ f => f.elim)).setCell ⟨rb, 0, none⟩ (.int .i64 (backI (rx + n * wx))) (fun _ => rfl))
  clear hb1 F2
  go_wp2_with fail
  refine (back_c _ _).mono ?_
  rintro _ u3 ⟨rfl, hb1⟩
  have g0 : u3.cell? ⟨rb, 0, none⟩ = some (.int .i64 (backI (rx + n * wx))) := kc hb1 (by go_simp; first | done | rfl)
  have g1 : u3.cell? ⟨rb, 1, none⟩ = some (.int .i64 ry) := kc hb1 (by go_simp; first | done | rfl)
  have g2 : u3.cell? ⟨rb, 2, none⟩ = some (.int .i64 Q) := kc hb1 (by go_simp; first | done | rfl)
  have g3 : u3.cell? ⟨rb, 3, none⟩ = some (.int .u8 b) := kc hb1 (by go_simp; first | done | rfl)
  have i0 : u3.frozen? ⟨rb, 0, none⟩ = false := kfz hb1 (by go_size) (by go_simp)
  have i1 : u3.frozen? ⟨rb, 1, none⟩ = false := kfz hb1 (by go_size) (by go_simp)
  have i2 : u3.frozen? ⟨rb, 2, none⟩ = false := kfz hb1 (by go_size) (by go_simp)
  have i3 : u3.frozen? ⟨rb, 3, none⟩ = false := kfz hb1 (by go_size) (by go_simp)
  have hlu3 := klt g0
  have F4 := Lib.hid ((F3.out.trans (Fr.ofBelow (F := fun _ => False) hb1) (fun _ _ f => f.elim)).setCell ⟨rb, 1, none⟩ (.int .i64 (backI (ry + n * wy))) (fun _ => rfl))
  clear hb1 F3 d0 d1 d2 d3 e0 e1 e2 e3 hlu hlu2
  go_wp2
  go_end0
  refine ⟨rfl, ⟨by go_simp, by go_simp, by go_simp, by go_simp, fun i hi => ?_⟩, F4.out⟩
  rw [World.frozen?_setCell]
  match i, hi with
  | 0, _ => exact i0
  | 1, _ => exact i1
  | 2, _ => exact i2
  | 3, _ => exact i3
  | i + 4, h => omega
end Go.Proofs.YtcnejgilmciljaaGreatDoor
set_option linter.unusedSimpArgs false
set_option linter.unusedVariables false
namespace Go.Proofs.YtcnejgilmciljaaGreatDoor
open Go.RowKit Go.PlainAid

/-- Of what stood there only cells of the block rb were turned, of those only such as K tells. -/
structure Eo (rb : Nat) (K : Nat → Prop) (w u : World) : Prop where
  lt : rb < w.heap.size
  fr : Fr (fun k => k = rb) w u
  ek : ∀ j, ¬ K j → u.cell? ⟨rb, j, none⟩ = w.cell? ⟨rb, j, none⟩ ∧ u.frozen? ⟨rb, j, none⟩ = w.frozen? ⟨rb, j, none⟩
section
variable {rb : Nat} {K : Nat → Prop} {w u v : World}
theorem Eo.refl (h : rb < w.heap.size) : Eo rb K w w := ⟨h, Fr.refl _ _, fun _ _ => ⟨rfl, rfl⟩⟩
theorem Eo.on (h : Eo rb K w u) (hb : Below u.heap.size u v) : Eo rb K w v :=
  ⟨h.lt, h.fr.trans (Fr.ofBelow (F := fun _ => False) hb) (fun _ _ f => f.elim), fun j hj => ⟨((bcell hb).1 _ _ (Nat.lt_of_lt_of_le h.lt h.fr.size)).trans (h.ek j hj).1, ((bcell hb).2 _ _ (Nat.lt_of_lt_of_le h.lt h.fr.size)).trans (h.ek j hj).2⟩⟩
theorem Eo.set (h : Eo rb K w u) (o : Nat) (x : Value) (ho : K o) : Eo rb K w (u.setCell ⟨rb, o, none⟩ x) :=
  ⟨h.lt, h.fr.setCell _ _ (fun _ => rfl), fun j hj => ⟨(World.cell?_setCell_other _ _ _ _ (fun e => hj (by have e' : o = j := congrArg Addr.off e; rw [← e']; exact ho))).trans (h.ek j hj).1, (World.frozen?_setCell _ _ _ _).trans (h.ek j hj).2⟩⟩
theorem Eo.trans {K' : Nat → Prop} (h : Eo rb K w u) (k : Eo rb K' u v) (hk : ∀ j, K' j → K j) : Eo rb K w v :=
  ⟨h.lt, h.fr.trans k.fr (fun _ _ e => e), fun j hj => ⟨((k.ek j (fun e => hj (hk j e))).1).trans (h.ek j hj).1, ((k.ek j (fun e => hj (hk j e))).2).trans (h.ek j hj).2⟩⟩
theorem Eo.mono {K' : Nat → Prop} (h : Eo rb K w u) (hk : ∀ j, K j → K' j) : Eo rb K' w u := ⟨h.lt, h.fr, fun j hj => h.ek j (fun e => hj (hk j e))⟩
theorem Eo.new (h : Eo rb K w u) (p : Addr) (x : Value) (hp : w.heap.size ≤ p.block) : Eo rb K w (u.setCell p x) := by
  have hlt := h.lt
  exact ⟨h.lt, h.fr.setCell _ _ (fun e => by omega), fun j hj => ⟨(World.cell?_setCell_other _ _ _ _ (fun e => by have := congrArg Addr.block e; simp at this; omega)).trans (h.ek j hj).1, (World.frozen?_setCell _ _ _ _).trans (h.ek j hj).2⟩⟩
theorem Eo.hold {R : List Rw} (h : Eo rb K w u) (hR : Hold rb R w) (ho : ∀ (i : Nat) (r : Rw), R[i]? = some r → ¬ K r.off) : Hold rb R u :=
  ⟨Nat.lt_of_lt_of_le h.lt h.fr.size, fun i r hr => ⟨((h.ek _ (ho i r hr)).1).trans (hR.cell i r hr).1, ((h.ek _ (ho i r hr)).2).trans (hR.cell i r hr).2⟩,
    fun i r hr => ⟨h.fr.row (hR.own i r hr).1 (fun b hb e => (hR.own i r hr).2 (by rw [hb, e])), (hR.own i r hr).2⟩, hR.sep⟩
theorem Eo.inp {o : Nat} {F : Nat → Prop} {x : Value} {l : List Int} (h : Eo rb K w u) (hi : Inp rb o F x l w) (ho : ¬ K o) (hF : F rb) : Inp rb o F x l u :=
  ⟨((h.ek o ho).1).trans hi.c, ((h.ek o ho).2).trans hi.f, hi.h.fr h.fr (fun hl b hb e => hi.n hl b hb (e ▸ hF)), hi.n⟩
end
/-- Offsets: of the timer, of the wheel, of the cycles; of what comes in. -/
def kT (j : Nat) : Prop := 1 ≤ j ∧ j ≤ 6
def kW (j : Nat) : Prop := 13 ≤ j ∧ j ≤ 16
def kN (j : Nat) : Prop := j = 17
def kP (j : Nat) : Prop := 7 ≤ j ∧ j ≤ 8
theorem Eo.ofEk {rb : Nat} {w u : World} (hlt : rb < w.heap.size) (hf : Fr (fun k => k = rb) w u) (h : Ek rb 7 8 w u) : Eo rb kP w u := ⟨hlt, hf, fun j hj => h j (by unfold kP at hj; omega)⟩
theorem Eo.ofTq {rb : Nat} {x : Tm} {w u : World} (hlt : rb < w.heap.size) (h : Tq rb 1 w x u) : Eo rb kT w u :=
  ⟨hlt, Fr.ofGrown h.g (fun b _ e => (Option.some.inj e).symm), fun j hj => h.ot j (by unfold kT at hj; omega)⟩
/-- The document's wheel within its bus. -/
structure Rk (rb : Nat) (R : Wh) (w : World) : Prop where
  c0 : w.cell? ⟨rb, 13, none⟩ = some (.int .i64 R.x)
  c1 : w.cell? ⟨rb, 14, none⟩ = some (.int .i64 R.y)
  c2 : w.cell? ⟨rb, 15, none⟩ = some (.int .i64 R.q)
  c3 : w.cell? ⟨rb, 16, none⟩ = some (.int .u8 R.b)
  f0 : w.frozen? ⟨rb, 13, none⟩ = false
  f1 : w.frozen? ⟨rb, 14, none⟩ = false
  f2 : w.frozen? ⟨rb, 15, none⟩ = false
  f3 : w.frozen? ⟨rb, 16, none⟩ = false
theorem Rk.eo {rb : Nat} {R : Wh} {K : Nat → Prop} {w u : World} (h : Rk rb R w) (e : Eo rb K w u) (hk : ∀ j, kW j → ¬ K j) : Rk rb R u :=
  ⟨((e.ek 13 (hk _ (by unfold kW; omega))).1).trans h.c0, ((e.ek 14 (hk _ (by unfold kW; omega))).1).trans h.c1, ((e.ek 15 (hk _ (by unfold kW; omega))).1).trans h.c2, ((e.ek 16 (hk _ (by unfold kW; omega))).1).trans h.c3,
   ((e.ek 13 (hk _ (by unfold kW; omega))).2).trans h.f0, ((e.ek 14 (hk _ (by unfold kW; omega))).2).trans h.f1, ((e.ek 15 (hk _ (by unfold kW; omega))).2).trans h.f2, ((e.ek 16 (hk _ (by unfold kW; omega))).2).trans h.f3⟩
theorem Tw.eo {rb : Nat} {x : Tm} {K : Nat → Prop} {w u : World} (h : Tw rb 1 x w) (e : Eo rb K w u) (hk : ∀ j, kT j → ¬ K j) : Tw rb 1 x u :=
  ⟨fun i v hv => by
      have hi : i < 6 := by
        have := (List.getElem?_eq_some_iff.1 hv).1
        simpa [tmV] using this
      exact ((e.ek (1 + i) (hk _ (by unfold kT; omega))).1).trans (h.c i v hv),
    fun i hi => ((e.ek (1 + i) (hk _ (by unfold kT; omega))).2).trans (h.f i hi)⟩
theorem Tw.at1 {rb : Nat} {x : Tm} {w : World} (h : Tw rb 1 x w) : w.cell? ⟨rb, 1, none⟩ = some (.int .i64 x.l) ∧ w.cell? ⟨rb, 2, none⟩ = some (.int .i64 x.c) ∧ w.cell? ⟨rb, 3, none⟩ = some (.bool x.r) ∧
    w.cell? ⟨rb, 4, none⟩ = some (.bool x.a) ∧ w.cell? ⟨rb, 5, none⟩ = some (.bool x.s) ∧ w.cell? ⟨rb, 6, none⟩ = some (.bool x.g) := h.cells
theorem Tw.free1 {rb : Nat} {x : Tm} {w : World} (h : Tw rb 1 x w) : w.frozen? ⟨rb, 1, none⟩ = false ∧ w.frozen? ⟨rb, 2, none⟩ = false ∧ w.frozen? ⟨rb, 3, none⟩ = false ∧ w.frozen? ⟨rb, 4, none⟩ = false ∧ w.frozen? ⟨rb, 5, none⟩ = false ∧ w.frozen? ⟨rb, 6, none⟩ = false :=
  ⟨h.f 0 (by omega), h.f 1 (by omega), h.f 2 (by omega), h.f 3 (by omega), h.f 4 (by omega), h.f 5 (by omega)⟩
/-- All six cells of a timer stored. -/
theorem Tw.store1 {rb : Nat} {x : Tm} {u : World} (h : Tw rb 1 x u) (y : Tm) : Tq rb 1 u y ((((((u.setCell ⟨rb, 1, none⟩ (.int .i64 y.l)).setCell ⟨rb, 2, none⟩ (.int .i64 y.c)).setCell ⟨rb, 3, none⟩ (.bool y.r)).setCell ⟨rb, 4, none⟩ (.bool y.a)).setCell ⟨rb, 5, none⟩ (.bool y.s)).setCell ⟨rb, 6, none⟩ (.bool y.g)) := by
  obtain ⟨l, c, r, a, s, g⟩ := x
  obtain ⟨l', c', r', a', s', g'⟩ := y
  exact (((((h.start.setL l').setC c').setR r').setA a').setS s').setG g'
/-- A cycle passes. -/
structure Nn (rb : Nat) (n : Int) (w : World) : Prop where
  c : w.cell? ⟨rb, 17, none⟩ = some (.int .i64 n)
  f : w.frozen? ⟨rb, 17, none⟩ = false
theorem Nn.eo {rb : Nat} {n : Int} {K : Nat → Prop} {w u : World} (h : Nn rb n w) (e : Eo rb K w u) (hk : ¬ K 17) : Nn rb n u := ⟨((e.ek 17 hk).1).trans h.c, ((e.ek 17 hk).2).trans h.f⟩
def kTN (j : Nat) : Prop := kT j ∨ kN j
set_option maxRecDepth 100000 in
set_option maxHeartbeats 2000000 in
theorem pass_c (rb : Nat) (T : Tm) (hm : T.May) (n : Int) (hn : 0 ≤ n ∧ n ≤ 4611686018427387904) (w : World) (ht : Tw rb 1 T w) (hc : Nn rb n w) :
    Calls Tryz.prog 47 #[.pointer (some ⟨rb, 0, none⟩)] w fun e w' => e = .returned (.tuple #[]) ∧ Tw rb 1 (tickT T) w' ∧ Nn rb (n + 1) w' ∧ Eo rb kTN w w' := by
  have HT := Lib.hid (fun W => tickd_c T hm W)
  obtain ⟨c0, c1, c2, c3, c4, c5⟩ := ht.at1
  obtain ⟨f0, f1, f2, f3, f4, f5⟩ := ht.free1
  obtain ⟨n0, g0⟩ := hc
  have hlt := klt c0
  have HTW := Lib.hid ht
  have hw : IntKind.i64.wrap (n + 1) = n + 1 := IntWalk.i64_in _ (by omega)
  obtain ⟨l, c, r, a, s, g⟩ := T
  obtain ⟨Y, hY⟩ : ∃ Y, tickT ⟨l, c, r, a, s, g⟩ = Y := ⟨_, rfl⟩
  rw [hY] at HT ⊢
  dsimp only at *
  clear hm ht hn hY
  go_enter Tryz.func47, Tryz.ntmps47
  go_wp2_with fail
  refine (HT.out _).mono ?_
  rintro _ u ⟨rfl, hb⟩
  have HE0 := Lib.hid ((Eo.refl (K := kTN) hlt).on hb)
  have HTu := Lib.hid (HTW.out.below hb)
  obtain ⟨d0, d1, d2, d3, d4, d5⟩ := HTu.out.at1
  obtain ⟨e0, e1, e2, e3, e4, e5⟩ := HTu.out.free1
  have m0 : u.cell? ⟨rb, 17, none⟩ = some (.int .i64 n) := kc hb n0
  have m1 : u.frozen? ⟨rb, 17, none⟩ = false := kfz hb hlt g0
  have hlu := klt m0
  have HQ := Lib.hid (HTu.out.store1 Y)
  clear hb c0 c1 c2 c3 c4 c5 f0 f1 f2 f3 f4 f5 n0 g0 hlt HTW HTu
  go_wp2
  go_end0
  have h1 := (HE0.out).trans ((Eo.ofTq hlu HQ.out).mono (fun j hj => (.inl hj : kTN j))) (fun _ h => h)
  have h2 := h1.set 17 (.int .i64 (n + 1)) (.inr rfl)
  refine ⟨rfl, ⟨fun i v hv => ?_, fun i hi => ?_⟩, ⟨?_, ?_⟩, h2⟩
  · have hi : i < 6 := by
      have := (List.getElem?_eq_some_iff.1 hv).1
      simpa [tmV] using this
    exact (World.cell?_setCell_other _ _ _ _ (fun e => by have := congrArg Addr.off e; simp at this; omega)).trans (HQ.out.t.c i v hv)
  · exact (World.frozen?_setCell _ _ _ _).trans (HQ.out.t.f i hi)
  · exact World.cell?_setCell_same _ _ _ (((HQ.out.ot 17 (by omega)).1).trans m0)
  · exact (World.frozen?_setCell _ _ _ _).trans (((HQ.out.ot 17 (by omega)).2).trans m1)
set_option maxRecDepth 100000 in
set_option maxHeartbeats 2000000 in
theorem wheelb_c (rb : Nat) (R : Wh) (hR : R.May) (b : Int) (hb : 0 ≤ b ∧ b ≤ 255) (w : World) (h : Rk rb R w) :
    Calls Tryz.prog 45 #[.pointer (some ⟨rb, 13, none⟩), .int .u8 b] w fun e w' => e = .returned (.tuple #[]) ∧ Rk rb (rollW R b) w' ∧ Eo rb kW w w' := by
  obtain ⟨c0, c1, c2, c3, f0, f1, f2, f3⟩ := h
  have hlt := klt c0
  have hQ := turnQ_may hR.q hb
  have hq4 := quarter_may hb
  have HX := Lib.hid (step_b (W := 0) hR.x hq4.2 (waysX_of (turnQ R.q b)))
  have HY := Lib.hid (step_b (W := 0) hR.y hq4.2 (waysY_of (turnQ R.q b)))
  have HW := Lib.hid (fun W => ways_c (turnQ R.q b) hQ W)
  have hRq := hR.q
  unfold rollW
  obtain ⟨rx, ry, rq, rbb⟩ := R
  dsimp only at *
  obtain ⟨Q, hQe⟩ : ∃ Q, turnQ rq b = Q := ⟨_, rfl⟩
  have hQ1 := hQe
  unfold turnQ at hQ1
  rw [hQe] at HX HY HW hQ ⊢
  obtain ⟨m, hm⟩ : ∃ m, b.tmod 4 = m := ⟨_, rfl⟩
  obtain ⟨n, hn⟩ : ∃ n, b.tdiv 4 = n := ⟨_, rfl⟩
  rw [hm] at hQ1 hq4
  rw [hn] at HX HY hq4 ⊢
  have w1 : IntKind.i64.wrap b = b := IntWalk.i64_in _ (by omega)
  have w2 : IntKind.i64.wrap m = m := IntWalk.i64_in _ (by omega)
  have w3 : IntKind.i64.wrap (rq + m) = rq + m := IntWalk.i64_in _ (by omega)
  have w4 : IntKind.i64.wrap Q = Q := IntWalk.i64_in _ (by omega)
  have w5 : IntKind.i64.wrap n = n := IntWalk.i64_in _ (by omega)
  have w6 : IntKind.i64.wrap (n * waysX Q) = n * waysX Q := IntWalk.i64_in _ (by have := HX.out.1; omega)
  have w7 : IntKind.i64.wrap (n * waysY Q) = n * waysY Q := IntWalk.i64_in _ (by have := HY.out.1; omega)
  have w8 : IntKind.i64.wrap (rx + n * waysX Q) = rx + n * waysX Q := IntWalk.i64_in _ HX.out.2
  have w9 : IntKind.i64.wrap (ry + n * waysY Q) = ry + n * waysY Q := IntWalk.i64_in _ HY.out.2
  generalize waysX Q = wx at *
  generalize waysY Q = wy at *
  clear hR hb hQ hq4 hQe hRq
  go_enter Tryz.func45, Tryz.ntmps45
  go_wp2_with fail
  have F1 := Lib.hid (((Eo.refl (K := kW) hlt).set 16 (.int .u8 b) (by unfold kW; omega)).set 15 (.int .i64 Q) (by unfold kW; omega))
  refine (HW.out _).mono ?_
  rintro _ u ⟨rfl, hb1⟩
  have F2 := Lib.hid (F1.out.on hb1)
  have d0 : u.cell? ⟨rb, 13, none⟩ = some (.int .i64 rx) := kc hb1 (by go_simp; first | done | rfl)
  have d1 : u.cell? ⟨rb, 14, none⟩ = some (.int .i64 ry) := kc hb1 (by go_simp; first | done | rfl)
  have d2 : u.cell? ⟨rb, 15, none⟩ = some (.int .i64 Q) := kc hb1 (by go_simp; first | done | rfl)
  have d3 : u.cell? ⟨rb, 16, none⟩ = some (.int .u8 b) := kc hb1 (by go_simp; first | done | rfl)
  have e0 : u.frozen? ⟨rb, 13, none⟩ = false := kfz hb1 (by go_size) (by go_simp)
  have e1 : u.frozen? ⟨rb, 14, none⟩ = false := kfz hb1 (by go_size) (by go_simp)
  have e2 : u.frozen? ⟨rb, 15, none⟩ = false := kfz hb1 (by go_size) (by go_simp)
  have e3 : u.frozen? ⟨rb, 16, none⟩ = false := kfz hb1 (by go_size) (by go_simp)
  have hlu := klt d0
  clear hb1 F1 c0 c1 c2 c3 f0 f1 f2 f3 hlt
  go_wp2_with fail
  refine (back_c _ _).mono ?_
  rintro _ u2 ⟨rfl, hb1⟩
  have d0 := kc hb1 d0
  have d1 := kc hb1 d1
  have d2 := kc hb1 d2
  have d3 := kc hb1 d3
  have e0 := kfz hb1 hlu e0
  have e1 := kfz hb1 hlu e1
  have e2 := kfz hb1 hlu e2
  have e3 := kfz hb1 hlu e3
  have hlu2 := klt d0
  have F3 := Lib.hid ((F2.out.on hb1).set 13 (.int .i64 (backI (rx + n * wx))) (by unfold kW; omega))
  clear hb1 F2
  go_wp2_with fail
  refine (back_c _ _).mono ?_
  rintro _ u3 ⟨rfl, hb1⟩
  have g0 : u3.cell? ⟨rb, 13, none⟩ = some (.int .i64 (backI (rx + n * wx))) := kc hb1 (by go_simp; first | done | rfl)
  have g1 : u3.cell? ⟨rb, 14, none⟩ = some (.int .i64 ry) := kc hb1 (by go_simp; first | done | rfl)
  have g2 : u3.cell? ⟨rb, 15, none⟩ = some (.int .i64 Q) := kc hb1 (by go_simp; first | done | rfl)
  have g3 : u3.cell? ⟨rb, 16, none⟩ = some (.int .u8 b) := kc hb1 (by go_simp; first | done | rfl)
  have i0 : u3.frozen? ⟨rb, 13, none⟩ = false := kfz hb1 (by go_size) (by go_simp)
  have i1 : u3.frozen? ⟨rb, 14, none⟩ = false := kfz hb1 (by go_size) (by go_simp)
  have i2 : u3.frozen? ⟨rb, 15, none⟩ = false := kfz hb1 (by go_size) (by go_simp)
  have i3 : u3.frozen? ⟨rb, 16, none⟩ = false := kfz hb1 (by go_size) (by go_simp)
  have hlu3 := klt g0
  have F4 := Lib.hid ((F3.out.on hb1).set 14 (.int .i64 (backI (ry + n * wy))) (by unfold kW; omega))
  clear hb1 F3 d0 d1 d2 d3 e0 e1 e2 e3 hlu hlu2
  go_wp2
  go_end0
  exact ⟨rfl, ⟨by go_simp, by go_simp, by go_simp, by go_simp, by go_simp, by go_simp, by go_simp, by go_simp⟩, F4.out⟩
end Go.Proofs.YtcnejgilmciljaaGreatDoor
set_option linter.unusedSimpArgs false
set_option linter.unusedVariables false
namespace Go.Proofs.YtcnejgilmciljaaGreatDoor
open Go.RowKit Go.PlainAid

/-- What Read answers: the byte's numbers, and the error. -/
structure RdO where
  v : Int
  t : Int
  e : Int
def readP (L : List Pt) (a : Int) : RdO := if a < 0 ∨ 65535 < a then ⟨0, 0, 10⟩ else if devB a = true then ⟨0, 0, 15⟩ else ⟨(atP L a).1, (atP L a).2, 0⟩
theorem rdO_ret {w w' : World} {o : RdO} {v t e : Int} (h : o = ⟨v, t, e⟩) (hb : Below w.heap.size w w') : (Ending.returned (.tuple #[.agg #[.int .u8 v, .int .u8 t], .int .i64 e]) = .returned (.tuple #[.agg #[.int .u8 o.v, .int .u8 o.t], .int .i64 o.e])) ∧ Below w.heap.size w w' := by
  subst h; exact ⟨rfl, hb⟩
end Go.Proofs.YtcnejgilmciljaaGreatDoor
