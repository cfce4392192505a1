/-
  A timer as the document says it: what its registers are, what a cycle makes of it, and many.
  The document's timer: May, IRQ, Read, Write, Tick; a timer as its own.
  The document's timer: Write; the law's Plain.
-/
import Derived.WalkKit
import Derived.Test.YtcnejgilmciljaaDoorEnts
set_option linter.unusedSimpArgs false
set_option linter.unusedVariables false
namespace Go.Proofs.YtcnejgilmciljaaDoor

/-- A timer: Latch, Count, Runs, Again, Asks, Rings. -/
structure Tm where
  l : Int
  c : Int
  r : Bool
  a : Bool
  s : Bool
  g : Bool
def Tm.May (x : Tm) : Prop := (0 ≤ x.l ∧ x.l < 65536) ∧ 0 ≤ x.c ∧ x.c < 65536
def mayT (x : Tm) : Bool := decide (0 ≤ x.l) && decide (x.l < 65536) && decide (0 ≤ x.c) && decide (x.c < 65536)
theorem mayT_iff (x : Tm) : mayT x = true ↔ x.May := by
  unfold mayT Tm.May
  simp only [Bool.and_eq_true, decide_eq_true_eq, and_assoc]
theorem mayT_not (x : Tm) (h : mayT x = false) : ¬ x.May := fun hm => by
  rw [(mayT_iff x).2 hm] at h; cases h
/-- A cycle. -/
def tickT (x : Tm) : Tm :=
  if x.r = true then (if 0 < x.c then ⟨x.l, x.c - 1, x.r, x.a, x.s, x.g⟩ else if x.a = true then ⟨x.l, x.l, x.r, x.a, x.s, true⟩ else ⟨x.l, x.c, false, x.a, x.s, true⟩) else x
def ticks : Nat → Tm → Tm
  | 0, x => x
  | n + 1, x => ticks n (tickT x)
theorem ticks_zero (x : Tm) : ticks 0 x = x := rfl
theorem ticks_succ (n : Nat) (x : Tm) : ticks (n + 1) x = ticks n (tickT x) := rfl
theorem ticks_add (n : Nat) : ∀ (m : Nat) (x : Tm), ticks (m + n) x = ticks n (ticks m x)
  | 0, x => by rw [Nat.zero_add]; rfl
  | m + 1, x => by
    rw [show m + 1 + n = m + n + 1 by omega, ticks_succ, ticks_succ]
    exact ticks_add n m (tickT x)
theorem ticks_last (n : Nat) (x : Tm) : ticks (n + 1) x = tickT (ticks n x) := ticks_add 1 n x
theorem tickT_l (x : Tm) : (tickT x).l = x.l := by
  unfold tickT; split
  · split
    · rfl
    · split <;> rfl
  · rfl
theorem ticks_l : ∀ (n : Nat) (x : Tm), (ticks n x).l = x.l
  | 0, x => rfl
  | n + 1, x => (ticks_l n (tickT x)).trans (tickT_l x)
theorem tickT_may (x : Tm) (h : x.May) : (tickT x).May := by
  obtain ⟨h1, h2⟩ := h
  unfold tickT Tm.May; split
  · split
    · dsimp only; omega
    · split <;> (dsimp only; omega)
  · omega
theorem ticks_may : ∀ (n : Nat) (x : Tm), x.May → (ticks n x).May
  | 0, x, h => h
  | n + 1, x, h => ticks_may n (tickT x) (tickT_may x h)
/-- One that stands stays so. -/
theorem tickT_still (x : Tm) (h : x.r = false) : tickT x = x := by
  unfold tickT; rw [if_neg (by rw [h]; decide)]
theorem ticks_still : ∀ (n : Nat) (x : Tm), x.r = false → ticks n x = x
  | 0, x, _ => rfl
  | n + 1, x, h => by rw [ticks_succ, tickT_still x h]; exact ticks_still n x h
/-- One that runs counts down. -/
theorem ticks_down : ∀ (k : Nat) (x : Tm), x.r = true → (k : Int) ≤ x.c → ticks k x = ⟨x.l, x.c - k, x.r, x.a, x.s, x.g⟩
  | 0, x, _, _ => by rw [ticks_zero, show x.c - ((0 : Nat) : Int) = x.c by omega]
  | k + 1, x, h, hk => by
    have e : tickT x = ⟨x.l, x.c - 1, x.r, x.a, x.s, x.g⟩ := by unfold tickT; rw [if_pos h, if_pos (by omega)]
    rw [ticks_succ, e, ticks_down k ⟨x.l, x.c - 1, x.r, x.a, x.s, x.g⟩ h (by dsimp only; omega)]
    dsimp only
    rw [show x.c - 1 - (k : Int) = x.c - ((k + 1 : Nat) : Int) by omega]
/-- It rings. -/
def ringT (x : Tm) : Tm := if x.a = true then ⟨x.l, x.l, x.r, x.a, x.s, true⟩ else ⟨x.l, 0, false, x.a, x.s, true⟩
theorem ticks_ring (x : Tm) (h : x.r = true) (hc : 0 ≤ x.c) : ticks (x.c.toNat + 1) x = ringT x := by
  rw [ticks_last, ticks_down x.c.toNat x h (by omega), show x.c - (x.c.toNat : Int) = 0 by omega]
  unfold tickT ringT
  dsimp only
  rw [if_pos h, if_neg (by omega)]
theorem tickT_zero (x : Tm) (h : x.r = true) : tickT ⟨x.l, 0, x.r, x.a, x.s, x.g⟩ = ringT x := by
  unfold tickT ringT
  dsimp only
  rw [if_pos h, if_neg (by omega)]
/-- Once round. -/
theorem ticks_round (x : Tm) (h : x.r = true) (ha : x.a = true) (hg : x.g = true) (hc : x.c = x.l) (hl : 0 ≤ x.l) : ticks (x.l.toNat + 1) x = x := by
  have := ticks_ring x h (by omega)
  rw [hc] at this
  rw [this]
  unfold ringT
  rw [if_pos ha]
  obtain ⟨l, c, r, a, s, g⟩ := x
  dsimp only at *
  rw [hc, hg]
theorem ticks_rounds (x : Tm) (h : x.r = true) (ha : x.a = true) (hg : x.g = true) (hc : x.c = x.l) (hl : 0 ≤ x.l) : ∀ q : Nat, ticks ((x.l.toNat + 1) * q) x = x
  | 0 => by rw [Nat.mul_zero]; rfl
  | q + 1 => by rw [Nat.mul_succ, ticks_add, ticks_rounds x h ha hg hc hl q]; exact ticks_round x h ha hg hc hl
theorem ticks_mod (x : Tm) (h : x.r = true) (ha : x.a = true) (hg : x.g = true) (hc : x.c = x.l) (hl : 0 ≤ x.l) (n : Nat) : ticks n x = ticks (n % (x.l.toNat + 1)) x := by
  conv => lhs; rw [← Nat.div_add_mod n (x.l.toNat + 1)]
  rw [ticks_add, ticks_rounds x h ha hg hc hl]
/-- Many cycles. -/
def afterT (x : Tm) (n : Int) : Tm := ticks n.toNat x
theorem afterT_zero (x : Tm) : afterT x 0 = x := rfl
theorem afterT_add (x : Tm) (n m : Int) (hn : 0 ≤ n) (hm : 0 ≤ m) : afterT x (n + m) = afterT (afterT x n) m := by
  unfold afterT
  rw [show (n + m).toNat = n.toNat + m.toNat by omega, ticks_add]
theorem afterT_may (x : Tm) (n : Int) (h : x.May) : (afterT x n).May := ticks_may _ x h
theorem afterT_still (x : Tm) (n : Int) (h : x.r = false) : afterT x n = x := ticks_still _ x h
theorem afterT_down (x : Tm) (n : Int) (h : x.r = true) (h0 : 0 ≤ n) (hn : n ≤ x.c) : afterT x n = ⟨x.l, x.c - n, x.r, x.a, x.s, x.g⟩ := by
  unfold afterT
  rw [ticks_down n.toNat x h (by omega), show (n.toNat : Int) = n by omega]
theorem toNat_mod (a b : Int) (ha : 0 ≤ a) (hb : 0 ≤ b) : (a % (b + 1)).toNat = a.toNat % (b.toNat + 1) := by
  obtain ⟨m, rfl⟩ : ∃ m : Nat, a = (m : Int) := ⟨a.toNat, by omega⟩
  obtain ⟨k, rfl⟩ : ∃ k : Nat, b = (k : Int) := ⟨b.toNat, by omega⟩
  rw [Int.toNat_natCast, Int.toNat_natCast, show (k : Int) + 1 = ((k + 1 : Nat) : Int) from rfl, ← Int.natCast_emod, Int.toNat_natCast]
/-- Past where it rings: what goes round only is left away. -/
theorem afterT_past (x : Tm) (n : Int) (h : x.r = true) (hm : x.May) (hn : x.c < n) : afterT x n = afterT (ringT x) ((n - (x.c + 1)) % (x.l + 1)) := by
  obtain ⟨h1, h2⟩ := hm
  have e : afterT x n = ticks (n - (x.c + 1)).toNat (ringT x) := by
    unfold afterT
    rw [show n.toNat = (x.c.toNat + 1) + (n - (x.c + 1)).toNat by omega, ticks_add, ticks_ring x h h2.1]
  rw [e]
  unfold afterT
  by_cases ha : x.a = true
  · have hr : ringT x = ⟨x.l, x.l, x.r, x.a, x.s, true⟩ := by unfold ringT; rw [if_pos ha]
    rw [hr, toNat_mod _ _ (by omega) h1.1]
    exact ticks_mod ⟨x.l, x.l, x.r, x.a, x.s, true⟩ h ha rfl rfl h1.1 _
  · have hr : ringT x = ⟨x.l, 0, false, x.a, x.s, true⟩ := by unfold ringT; rw [if_neg ha]
    rw [hr, ticks_still _ _ rfl, ticks_still _ _ rfl]
theorem ringT_may (x : Tm) (h : x.May) : (ringT x).May := by
  obtain ⟨h1, h2⟩ := h
  unfold ringT Tm.May; split <;> (dsimp only; omega)
theorem ringT_l (x : Tm) : (ringT x).l = x.l := by unfold ringT; split <;> rfl
theorem ringT_c (x : Tm) (h : (ringT x).r = true) : (ringT x).c = x.l := by
  revert h; unfold ringT; split
  · intro _; rfl
  · intro h; cases h
/-- The registers. -/
def ctrlT (r a s : Bool) : Int := (if r then 1 else 0) + (if a then 2 else 0) + (if s then 4 else 0)
def readT (x : Tm) (reg : Int) : Int :=
  if reg = 0 then x.c % 256 else if reg = 1 then x.c / 256 else if reg = 2 then ctrlT x.r x.a x.s else if reg = 3 then (if x.g then 128 else 0) else 0
def onT (v : Int) (k : Int) : Bool := v / k % 2 == 1
def ctlT (x : Tm) (v : Int) : Tm := ⟨x.l, if onT v 1 then x.l else x.c, onT v 1, onT v 2, onT v 4, x.g⟩
def writeT (x : Tm) (reg v : Int) : Tm :=
  if reg = 0 then ⟨x.l / 256 * 256 + v, x.c, x.r, x.a, x.s, x.g⟩ else if reg = 1 then ⟨x.l % 256 + 256 * v, x.c, x.r, x.a, x.s, x.g⟩ else if reg = 2 then ctlT x v else if reg = 3 then ⟨x.l, x.c, x.r, x.a, x.s, false⟩ else x
def regE (reg : Int) : Int := if 0 ≤ reg ∧ reg ≤ 3 then 0 else 10
theorem writeT_may (x : Tm) (reg v : Int) (h : x.May) (hv : 0 ≤ v ∧ v ≤ 255) : (writeT x reg v).May := by
  obtain ⟨h1, h2⟩ := h
  unfold writeT
  split
  · unfold Tm.May; dsimp only; omega
  · split
    · unfold Tm.May; dsimp only; omega
    · split
      · unfold ctlT Tm.May; dsimp only; split <;> omega
      · split
        · exact ⟨h1, h2⟩
        · exact ⟨h1, h2⟩
theorem readT_byte (x : Tm) (reg : Int) (h : x.May) : 0 ≤ readT x reg ∧ readT x reg ≤ 255 := by
  obtain ⟨h1, h2⟩ := h
  unfold readT
  split
  · omega
  · split
    · omega
    · split
      · unfold ctrlT; cases x.r <;> cases x.a <;> cases x.s <;> decide
      · split
        · cases x.g <;> decide
        · decide
theorem reg_cases (reg : Int) : reg = 0 ∨ reg = 1 ∨ reg = 2 ∨ reg = 3 ∨ (reg ≠ 0 ∧ reg ≠ 1 ∧ reg ≠ 2 ∧ reg ≠ 3) := by omega
end Go.Proofs.YtcnejgilmciljaaDoor
set_option linter.unusedSimpArgs false
set_option linter.unusedVariables false
namespace Go.Proofs.YtcnejgilmciljaaDoor
open Go.RowKit Go.PlainAid

end Go.Proofs.YtcnejgilmciljaaDoor
set_option linter.unusedSimpArgs false
set_option linter.unusedVariables false
namespace Go.Proofs.YtcnejgilmciljaaDoor
open Go.RowKit Go.PlainAid

theorem ret_agg6 {l c : Int} {r a s g : Bool} {y : Tm} (h : y = ⟨l, c, r, a, s, g⟩) : Ending.returned (.agg #[.int .i64 l, .int .i64 c, .bool r, .bool a, .bool s, .bool g]) = .returned (.agg #[.int .i64 y.l, .int .i64 y.c, .bool y.r, .bool y.a, .bool y.s, .bool y.g]) := by rw [h]
end Go.Proofs.YtcnejgilmciljaaDoor
