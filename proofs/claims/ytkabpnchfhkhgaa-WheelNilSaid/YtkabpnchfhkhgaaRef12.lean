/-
  The document's wheel: Back, Ways, Write.
-/
import Derived.Test.YtkabpnchfhkhgaaNum12
import Derived.Test.YtkabpnchfhkhgaaFrame
set_option linter.unusedSimpArgs false
set_option linter.unusedVariables false
namespace Go.Proofs.Ytkabpnchfhkhgaa
open Go.RowKit Go.PlainAid

/-- Brought back. -/
def backI (n : Int) : Int := if n.tmod 256 < -128 then n.tmod 256 + 256 else if 127 < n.tmod 256 then n.tmod 256 - 256 else n.tmod 256
theorem tmod256 (n : Int) : -255 ≤ n.tmod 256 ∧ n.tmod 256 ≤ 255 := by
  rcases Int.lt_or_le n 0 with h | h
  · have e : n = -(-n) := by omega
    rw [e, Int.neg_tmod, Int.tmod_eq_emod_of_nonneg (by omega)]
    omega
  · rw [Int.tmod_eq_emod_of_nonneg h]
    omega
theorem backI_may (n : Int) : -128 ≤ backI n ∧ backI n ≤ 127 := by
  have := tmod256 n
  unfold backI
  split
  · omega
  · split <;> omega
set_option maxRecDepth 100000 in
theorem back_c (n : Int) (w : World) : Calls Try.prog 17 #[.int .i64 n] w fun e w' => e = .returned (.int .i64 (backI n)) ∧ Below w.heap.size w w' := by
  have hm := tmod256 n
  unfold backI
  obtain ⟨r, hr⟩ : ∃ r, n.tmod 256 = r := ⟨_, rfl⟩
  rw [hr] at hm ⊢
  by_cases h1 : r < -128
  · have hw : IntKind.i64.wrap (r + 256) = r + 256 := IntWalk.i64_in _ (by omega)
    have hw2 : IntKind.i64.wrap r = r := IntWalk.i64_in _ (by omega)
    rw [if_pos h1]
    go_enter Try.func17, Try.ntmps17
    go_wp2
    go_ret
    exact ⟨rfl, by go_grown⟩
  · rw [if_neg h1]
    have hw2 : IntKind.i64.wrap r = r := IntWalk.i64_in _ (by omega)
    by_cases h2 : 127 < r
    · have hw : IntKind.i64.wrap (r - 256) = r - 256 := IntWalk.i64_in _ (by omega)
      rw [if_pos h2]
      go_enter Try.func17, Try.ntmps17
      go_wp2
      go_ret
      exact ⟨rfl, by go_grown⟩
    · rw [if_neg h2]
      go_enter Try.func17, Try.ntmps17
      go_wp2
      go_ret
      exact ⟨rfl, by go_grown⟩
def waysX (q : Int) : Int := if q = 0 then 1 else if q = 1 then 0 else if q = 2 then -1 else 0
def waysY (q : Int) : Int := if q = 0 then 0 else if q = 1 then 1 else if q = 2 then 0 else -1
theorem way_cases {q : Int} (h : 0 ≤ q ∧ q ≤ 3) : q = 0 ∨ q = 1 ∨ q = 2 ∨ q = 3 := by omega
set_option maxRecDepth 100000 in
theorem ways_c (q : Int) (h : 0 ≤ q ∧ q ≤ 3) (w : World) : Calls Try.prog 24 #[.int .i64 q] w fun e w' => e = .returned (.tuple #[.int .i64 (waysX q), .int .i64 (waysY q)]) ∧ Below w.heap.size w w' := by
  rcases way_cases h with rfl | rfl | rfl | rfl
  all_goals
    go_enter Try.func24, Try.ntmps24
    go_wp2
    go_ret2
    exact ⟨rfl, by go_grown⟩
/-- A wheel: x, y, how many quarters, the byte that was written last. -/
structure Wh where
  x : Int
  y : Int
  q : Int
  b : Int
structure Wh.May (R : Wh) : Prop where
  x : -128 ≤ R.x ∧ R.x ≤ 127
  y : -128 ≤ R.y ∧ R.y ≤ 127
  q : 0 ≤ R.q ∧ R.q ≤ 3
  b : 0 ≤ R.b ∧ R.b ≤ 255
/-- What becomes of it. -/
def turnQ (q b : Int) : Int := (q + b.tmod 4).tmod 4
def rollW (R : Wh) (b : Int) : Wh := ⟨backI (R.x + b.tdiv 4 * waysX (turnQ R.q b)), backI (R.y + b.tdiv 4 * waysY (turnQ R.q b)), turnQ R.q b, b⟩
theorem quarter_may {b : Int} (h : 0 ≤ b ∧ b ≤ 255) : (0 ≤ b.tmod 4 ∧ b.tmod 4 ≤ 3) ∧ 0 ≤ b.tdiv 4 ∧ b.tdiv 4 ≤ 63 := by
  rw [Int.tmod_eq_emod_of_nonneg h.1, Int.tdiv_eq_ediv_of_nonneg h.1]
  omega
theorem turnQ_may {q b : Int} (hq : 0 ≤ q ∧ q ≤ 3) (h : 0 ≤ b ∧ b ≤ 255) : 0 ≤ turnQ q b ∧ turnQ q b ≤ 3 := by
  have := (quarter_may h).1
  unfold turnQ
  rw [Int.tmod_eq_emod_of_nonneg (by omega)]
  omega
theorem rollW_may {R : Wh} (h : R.May) {b : Int} (hb : 0 ≤ b ∧ b ≤ 255) : (rollW R b).May := ⟨backI_may _, backI_may _, turnQ_may h.q hb, hb⟩
def whV (R : Wh) : List Value := [.int .i64 R.x, .int .i64 R.y, .int .i64 R.q, .int .u8 R.b]
/-- The document's wheel at rb. -/
structure Rh (rb : Nat) (R : Wh) (w : World) : Prop where
  c0 : w.cell? ⟨rb, 0, none⟩ = some (.int .i64 R.x)
  c1 : w.cell? ⟨rb, 1, none⟩ = some (.int .i64 R.y)
  c2 : w.cell? ⟨rb, 2, none⟩ = some (.int .i64 R.q)
  c3 : w.cell? ⟨rb, 3, none⟩ = some (.int .u8 R.b)
  f : ∀ i, i < 4 → w.frozen? ⟨rb, i, none⟩ = false
theorem Rh.fr {rb : Nat} {R : Wh} {w u : World} {H : Nat → Prop} (h : Rh rb R w) (hf : Fr H w u) (hn : ¬ H rb) : Rh rb R u :=
  ⟨hf.cell h.c0 hn, hf.cell h.c1 hn, hf.cell h.c2 hn, hf.cell h.c3 hn, fun i hi => hf.frozen (klt h.c0) (h.f i hi) hn⟩
theorem Rh.below {rb : Nat} {R : Wh} {w u : World} (h : Rh rb R w) (hb : Below w.heap.size w u) : Rh rb R u := h.fr (Fr.ofBelow (F := fun _ => False) hb) (fun f => f)
theorem step_b {W n x d : Int} (hx : -128 ≤ x ∧ x ≤ 127) (hn : 0 ≤ n ∧ n ≤ 63) (hd : d = 0 ∨ d = 1 ∨ d = -1) : (-63 ≤ n * d ∧ n * d ≤ 63) ∧ -9223372036854775808 ≤ x + n * d ∧ x + n * d ≤ 9223372036854775807 := by
  rcases hd with rfl | rfl | rfl <;> simp <;> omega
theorem waysX_of (q : Int) : waysX q = 0 ∨ waysX q = 1 ∨ waysX q = -1 := by
  unfold waysX
  split
  · exact .inr (.inl rfl)
  · split
    · exact .inl rfl
    · split
      · exact .inr (.inr rfl)
      · exact .inl rfl
theorem waysY_of (q : Int) : waysY q = 0 ∨ waysY q = 1 ∨ waysY q = -1 := by
  unfold waysY
  split
  · exact .inl rfl
  · split
    · exact .inr (.inl rfl)
    · split
      · exact .inl rfl
      · exact .inr (.inr rfl)
set_option maxRecDepth 100000 in
set_option maxHeartbeats 2000000 in
theorem rwrite_c (rb : Nat) (R : Wh) (hR : R.May) (b : Int) (hb : 0 ≤ b ∧ b ≤ 255) (w : World) (h : Rh rb R w) :
    Calls Try.prog 13 #[.pointer (some ⟨rb, 0, none⟩), .int .u8 b] w fun e w' => e = .returned (.tuple #[]) ∧ Rh rb (rollW R b) w' ∧ Fr (fun k => k = rb) w w' := by
  obtain ⟨c0, c1, c2, c3, f⟩ := h
  have f0 := f 0 (by omega)
  have f1 := f 1 (by omega)
  have f2 := f 2 (by omega)
  have f3 := f 3 (by omega)
  have hlt := klt c0
  have hQ := turnQ_may hR.q hb
  have hq4 := quarter_may hb
  have HX := Lib.hid (step_b (W := 0) hR.x hq4.2 (waysX_of (turnQ R.q b)))
  have HY := Lib.hid (step_b (W := 0) hR.y hq4.2 (waysY_of (turnQ R.q b)))
  have HW := Lib.hid (fun W => ways_c (turnQ R.q b) hQ W)
  have hRq := hR.q
  unfold rollW
  obtain ⟨rx, ry, rq, rbb⟩ := R
  dsimp only at *
  obtain ⟨Q, hQe⟩ : ∃ Q, turnQ rq b = Q := ⟨_, rfl⟩
  have hQ1 := hQe
  unfold turnQ at hQ1
  rw [hQe] at HX HY HW hQ ⊢
  obtain ⟨m, hm⟩ : ∃ m, b.tmod 4 = m := ⟨_, rfl⟩
  obtain ⟨n, hn⟩ : ∃ n, b.tdiv 4 = n := ⟨_, rfl⟩
  rw [hm] at hQ1 hq4
  rw [hn] at HX HY hq4 ⊢
  have w1 : IntKind.i64.wrap b = b := IntWalk.i64_in _ (by omega)
  have w2 : IntKind.i64.wrap m = m := IntWalk.i64_in _ (by omega)
  have w3 : IntKind.i64.wrap (rq + m) = rq + m := IntWalk.i64_in _ (by omega)
  have w4 : IntKind.i64.wrap Q = Q := IntWalk.i64_in _ (by omega)
  have w5 : IntKind.i64.wrap n = n := IntWalk.i64_in _ (by omega)
  have w6 : IntKind.i64.wrap (n * waysX Q) = n * waysX Q := IntWalk.i64_in _ (by have := HX.out.1; omega)
  have w7 : IntKind.i64.wrap (n * waysY Q) = n * waysY Q := IntWalk.i64_in _ (by have := HY.out.1; omega)
  have w8 : IntKind.i64.wrap (rx + n * waysX Q) = rx + n * waysX Q := IntWalk.i64_in _ HX.out.2
  have w9 : IntKind.i64.wrap (ry + n * waysY Q) = ry + n * waysY Q := IntWalk.i64_in _ HY.out.2
  generalize waysX Q = wx at *
  generalize waysY Q = wy at *
  clear f hR hb hQ hq4 hQe hRq
  go_enter Try.func13, Try.ntmps13
  go_wp2_with fail
  have F1 := Lib.hid (((Fr.refl (fun k => k = rb) w).setCell ⟨rb, 3, none⟩ (.int .u8 b) (fun _ => rfl)).setCell ⟨rb, 2, none⟩ (.int .i64 Q) (fun _ => rfl))
  refine (HW.out _).mono ?_
  rintro _ u ⟨rfl, hb1⟩
  have F2 := Lib.hid (F1.out.trans (Fr.ofBelow (F := fun _ => False) hb1) (fun _ _ f => f.elim))
  have d0 : u.cell? ⟨rb, 0, none⟩ = some (.int .i64 rx) := kc hb1 (by go_simp; first | done | rfl)
  have d1 : u.cell? ⟨rb, 1, none⟩ = some (.int .i64 ry) := kc hb1 (by go_simp; first | done | rfl)
  have d2 : u.cell? ⟨rb, 2, none⟩ = some (.int .i64 Q) := kc hb1 (by go_simp; first | done | rfl)
  have d3 : u.cell? ⟨rb, 3, none⟩ = some (.int .u8 b) := kc hb1 (by go_simp; first | done | rfl)
  have e0 : u.frozen? ⟨rb, 0, none⟩ = false := kfz hb1 (by go_size) (by go_simp)
  have e1 : u.frozen? ⟨rb, 1, none⟩ = false := kfz hb1 (by go_size) (by go_simp)
  have e2 : u.frozen? ⟨rb, 2, none⟩ = false := kfz hb1 (by go_size) (by go_simp)
  have e3 : u.frozen? ⟨rb, 3, none⟩ = false := kfz hb1 (by go_size) (by go_simp)
  have hlu := klt d0
  clear hb1 F1 c0 c1 c2 c3 f0 f1 f2 f3 hlt
  go_wp2_with fail
  refine (back_c _ _).mono ?_
  rintro _ u2 ⟨rfl, hb1⟩
  have d0 := kc hb1 d0
  have d1 := kc hb1 d1
  have d2 := kc hb1 d2
  have d3 := kc hb1 d3
  have e0 := kfz hb1 hlu e0
  have e1 := kfz hb1 hlu e1
  have e2 := kfz hb1 hlu e2
  have e3 := kfz hb1 hlu e3
  have hlu2 := klt d0
  have F3 := Lib.hid ((F2.out.trans (Fr.ofBelow (F := fun _ => False) hb1) (fun _ _ f => f.elim)).setCell ⟨rb, 0, none⟩ (.int .i64 (backI (rx + n * wx))) (fun _ => rfl))
  clear hb1 F2
  go_wp2_with fail
  refine (back_c _ _).mono ?_
  rintro _ u3 ⟨rfl, hb1⟩
  have g0 : u3.cell? ⟨rb, 0, none⟩ = some (.int .i64 (backI (rx + n * wx))) := kc hb1 (by go_simp; first | done | rfl)
  have g1 : u3.cell? ⟨rb, 1, none⟩ = some (.int .i64 ry) := kc hb1 (by go_simp; first | done | rfl)
  have g2 : u3.cell? ⟨rb, 2, none⟩ = some (.int .i64 Q) := kc hb1 (by go_simp; first | done | rfl)
  have g3 : u3.cell? ⟨rb, 3, none⟩ = some (.int .u8 b) := kc hb1 (by go_simp; first | done | rfl)
  have i0 : u3.frozen? ⟨rb, 0, none⟩ = false := kfz hb1 (by go_size) (by go_simp)
  have i1 : u3.frozen? ⟨rb, 1, none⟩ = false := kfz hb1 (by go_size) (by go_simp)
  have i2 : u3.frozen? ⟨rb, 2, none⟩ = false := kfz hb1 (by go_size) (by go_simp)
  have i3 : u3.frozen? ⟨rb, 3, none⟩ = false := kfz hb1 (by go_size) (by go_simp)
  have hlu3 := klt g0
  have F4 := Lib.hid ((F3.out.trans (Fr.ofBelow (F := fun _ => False) hb1) (fun _ _ f => f.elim)).setCell ⟨rb, 1, none⟩ (.int .i64 (backI (ry + n * wy))) (fun _ => rfl))
  clear hb1 F3 d0 d1 d2 d3 e0 e1 e2 e3 hlu hlu2
  go_wp2
  go_end0
  refine ⟨rfl, ⟨by go_simp, by go_simp, by go_simp, by go_simp, fun i hi => ?_⟩, F4.out⟩
  rw [World.frozen?_setCell]
  match i, hi with
  | 0, _ => exact i0
  | 1, _ => exact i1
  | 2, _ => exact i2
  | 3, _ => exact i3
  | i + 4, h => omega
end Go.Proofs.Ytkabpnchfhkhgaa
