/-
  What layer 14's laws lean on of the program: its steps, sequences, and what it says of a step; the chapter's example.
-/
import Derived.Test.YtcplegelppfdeaaDoorLink14
set_option linter.unusedSimpArgs false
set_option linter.unusedVariables false
namespace Go.Proofs.YtcplegelppfdeaaDoor
open Go.RowKit Go.PlainAid

/-- A list of numbers of the caller's own, in a row of its own: it may be written. -/
structure MineI (N : Nat) (v : Value) (l : List Int) (w : World) : Prop where
  o : w.ownsRow N 3 1 v l.length (l.flatMap nE)
theorem MineI.h {N : Nat} {v : Value} {l : List Int} {w : World} (h : MineI N v l w) : HoldsW nE 1 w v l := HoldsW.own nE_len h.o
def wrL : List Int := [10, 11, 12, 14, 15, 16, 17]
def mayL : List Int := [8, 27, 28]
def isWr (k : Int) : Bool := wrL.any (· == k)
def isMay (k : Int) : Bool := mayL.any (· == k)
def seqL (k : Int) : List Int := if k = 0 then [0, 0, 31, 31, 31, 29, 30] else [0, 0, 14, 15, 16, 29, 30]
/-- LW: what a world must lay for the program (its tables). -/
structure MicroK (LW : World → Prop) : Prop where
  stay : ∀ {w u : World}, LW w → Below w.heap.size w u → LW u
  prog : ∀ b : Nat, b < 256 → isOp b = true → ∀ w, LW w → Calls Tryd.prog 8 #[.int .u8 b] w fun e u => ∃ v, e = .returned (.tuple #[v, .int .i64 0]) ∧ MineI w.heap.size v (progL b) u ∧ Below w.heap.size w u
  noM : ∀ b : Nat, b < 256 → isOp b = false → ∀ w, LW w → Calls Tryd.prog 8 #[.int .u8 b] w fun e u => ∃ v, e = .returned (.tuple #[v, .int .i64 13]) ∧ MineI w.heap.size v [] u ∧ Below w.heap.size w u
  seq : ∀ k : Int, 0 ≤ k ∧ k ≤ 2 → ∀ w, LW w → Calls Tryd.prog 13 #[.int .i64 k] w fun e u => ∃ v, e = .returned (.tuple #[v, .int .i64 0]) ∧ MineI w.heap.size v (seqL k) u ∧ Below w.heap.size w u
  seqN : ∀ k : Int, ¬ (0 ≤ k ∧ k ≤ 2) → ∀ w, LW w → Calls Tryd.prog 13 #[.int .i64 k] w fun e u => ∃ p c, e = .returned (.tuple #[.slice p 0 c, .int .i64 15]) ∧ Below w.heap.size w u
  writes : ∀ k : Int, ∀ w, LW w → Calls Tryd.prog 15 #[.int .i64 k] w fun e u => e = .returned (.bool (isWr k)) ∧ Below w.heap.size w u
  may : ∀ k : Int, ∀ w, LW w → Calls Tryd.prog 16 #[.int .i64 k] w fun e u => e = .returned (.bool (isMay k)) ∧ Below w.heap.size w u
theorem MicroK.no {LW : World → Prop} (K : MicroK LW) (b : Nat) (hb : b < 256) (ho : isOp b = false) (w : World) (hL : LW w) : Calls Tryd.prog 8 #[.int .u8 b] w fun e u => ∃ p c, e = .returned (.tuple #[.slice p 0 c, .int .i64 13]) ∧ Below w.heap.size w u :=
  (K.noM b hb ho w hL).mono fun e u ⟨v, h1, h2, h3⟩ => by
    obtain ⟨p, c, rfl⟩ := own_form h2.o
    exact ⟨p, c, h1, h3⟩
def pgL (b : Nat) : List Int := if isOp b then progL b else []
def pgE (b : Nat) : Int := if isOp b then 0 else 13
theorem pgL_len (b : Nat) (hb : b < 256) : (pgL b).length ≤ 6 := by
  unfold pgL
  split
  · exact of_decide_eq_true (progL_len ⟨b, hb⟩)
  · exact Nat.zero_le _
theorem MicroK.any {LW : World → Prop} (K : MicroK LW) (b : Nat) (hb : b < 256) (w : World) (hL : LW w) : Calls Tryd.prog 8 #[.int .u8 b] w fun e u => ∃ v, e = .returned (.tuple #[v, .int .i64 (pgE b)]) ∧ MineI w.heap.size v (pgL b) u ∧ Below w.heap.size w u := by
  unfold pgL pgE
  cases ho : isOp b
  · exact K.noM b hb ho w hL
  · exact K.prog b hb ho w hL
theorem prog157 : progL 157 = [1, 2, 7, 12] := by decide +kernel
theorem op157 : isOp 157 = true := by decide +kernel
theorem holds_four {w : World} {g : Nat} {a b c d : Int} (h0 : w.cell? ⟨g, 0, none⟩ = some (.int .i64 a)) (h1 : w.cell? ⟨g, 1, none⟩ = some (.int .i64 b)) (h2 : w.cell? ⟨g, 2, none⟩ = some (.int .i64 c)) (h3 : w.cell? ⟨g, 3, none⟩ = some (.int .i64 d)) : HoldsW nE 1 w (.slice (some ⟨g, 0, none⟩) 4 4) [a, b, c, d] := by
  refine .inr ⟨g, 0, 4, rfl, Nat.le_refl _, fun j x hx i u hu => ?_⟩
  have hi : i = 0 := by have := (List.getElem?_eq_some_iff.1 hu).1; simp [nE] at this; omega
  subst hi
  rw [Nat.mul_one, Nat.zero_add, Nat.add_zero]
  match j, hx with
  | 0, hx => cases hx; cases hu; exact h0
  | 1, hx => cases hx; cases hu; exact h1
  | 2, hx => cases hx; cases hu; exact h2
  | 3, hx => cases hx; cases hu; exact h3
  | n + 4, hx => simp at hx
set_option maxRecDepth 100000 in
set_option maxHeartbeats 4000000 in
theorem awake14_c {LW : World → Prop} (K : MicroK LW) (w : World) (hL : LW w) : Calls Tryd.prog 10 #[] w fun e u => e = .returned (.bool true) ∧ Below w.heap.size w u := by
  have HP := Lib.hid (K.prog 157 (by decide) op157 w hL)
  rw [prog157] at HP
  have HI := Lib.hid (fun v1 v2 W h1 h2 => ints14_c [1, 2, 7, 12] [1, 2, 7, 12] (by decide) (by decide) v1 v2 W h1 h2)
  rw [show ([1, 2, 7, 12] == ([1, 2, 7, 12] : List Int)) = true from rfl] at HI
  go_enter Tryd.func10, Tryd.ntmps10
  go_wp2_with fail
  refine HP.out.mono ?_
  rintro _ u ⟨v, rfl, hm, hb⟩
  obtain ⟨p, c, rfl⟩ := hm.h.form
  have HM := Lib.hid hm
  have HB := Lib.hid hb
  clear hm hb HP
  go_wp2_with fail
  have hbu : Below u.heap.size u (u.alloc (Obj.cells #[.int .i64 1, .int .i64 2, .int .i64 7, .int .i64 12] 3)) := by go_grown
  refine (HI.out _ _ _ (HM.out.h.below hbu) (holds_four (by go_simp; first | done | rfl) (by go_simp; first | done | rfl) (by go_simp; first | done | rfl) (by go_simp; first | done | rfl))).mono ?_
  rintro _ z ⟨rfl, hb⟩
  have HZ := Lib.hid (Below.trans HB.out ((Below.trans hbu (hb.mono hbu.size)).mono HB.out.size))
  clear hb hbu
  go_wp2
  go_ret
  exact ⟨rfl, HZ.out⟩
end Go.Proofs.YtcplegelppfdeaaDoor
