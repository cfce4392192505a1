/-
  What 'taint.ends', the gate's method, and 'taint.join' come to: the loops of the closure, walked round by round.
-/
import Derived.Test.YtbbiegbfoimcaaaRows
import Derived.Test.YtbbiegbfoimcaaaLawKit
import Derived.Test.YtbbiegbfoimcaaaB8
import Derived.WalkKit
import Derived.WalkSpells
import Derived.WalkLawsBesides
import Derived.BigQuiet
import Derived.Deep.QuietTactic
import Derived.RegionTactic
import Derived.Handy
import Derived.Deep.RegionHeld3
import Derived.Deep.DeepCutAuto
import Derived.Deep.CutBlock
namespace Go.Proofs.Ytbbiegbfoimcaaa
open Go.RowKit

theorem ends_c (a t : BitVec 8) (w : World) : Calls Try.prog 44 #[TB a t] w fun e w' => e = .returned (.agg #[B8 (a &&& ~~~t), B8 (a ||| t)]) ∧ Below w.heap.size w w' := by
  have h1 := u8_andNot
  have h2 := u8_or
  go_enter Try.func44, Try.ntmps44
  go_wp2
  exact bodyPost_ret (v := .agg #[B8 (a &&& ~~~t), B8 (a ||| t)]) (by simp [results, Try.results44, go_sem]) rfl ⟨rfl, ((Below.refl _ _).alloc (Nat.le_refl _) _).alloc (by simp) _⟩

set_option maxHeartbeats 400000 in
theorem turn_c (g k a i : BitVec 8) (w : World) : Calls Try.prog 39 #[TB g k, B8 a, B8 i] w fun e w' => e = .returned (B8 ((a ^^^ i) &&& g ||| a &&& i &&& k)) ∧ Below w.heap.size w w' := by
  have h1 := u8_and
  have h2 := u8_or
  have h3 := u8_xor
  go_enter Try.func39, Try.ntmps39
  go_wp2
  go_ret
  exact ⟨rfl, (Below.refl _ _).alloc (Nat.le_refl _) _⟩

theorem idx8_0 (x y : Value) (w : World) : (Instr.index 59 (.agg #[x, y]) (.int .i64 0)).run Try.prog w = .ok x w := by kernel_rfl
theorem idx8_1 (x y : Value) (w : World) : (Instr.index 59 (.agg #[x, y]) (.int .i64 1)).run Try.prog w = .ok y w := by kernel_rfl
def turnB (g k x y : BitVec 8) : BitVec 8 := (x ^^^ y) &&& g ||| x &&& y &&& k
def joinB (g k a t b s : BitVec 8) : BitVec 8 :=
  (turnB g k (a &&& ~~~t) (b &&& ~~~s) ||| turnB g k (a &&& ~~~t) (b ||| s) ||| turnB g k (a ||| t) (b &&& ~~~s) ||| turnB g k (a ||| t) (b ||| s)) &&&
  (~~~(turnB g k (a &&& ~~~t) (b &&& ~~~s)) ||| ~~~(turnB g k (a &&& ~~~t) (b ||| s)) ||| ~~~(turnB g k (a ||| t) (b &&& ~~~s)) ||| ~~~(turnB g k (a ||| t) (b ||| s)))

/-- What the loops of 'join' leave: the bytes, the function, what may be 1 and what may be 0. -/
def JoinMid (g k a t b s : BitVec 8) (w wc : World) : Prop :=
  wc.cell? ⟨w.heap.size, 0, none⟩ = some (B8 a) ∧ wc.cell? ⟨w.heap.size + 1, 0, none⟩ = some (B8 b) ∧
  wc.cell? ⟨w.heap.size + 1 + 1, 0, none⟩ = some (.func (.func 39) #[TB g k] #[]) ∧
  wc.cell? ⟨w.heap.size + 1 + 1 + 1 + 1, 0, none⟩ = some (B8 (turnB g k (a &&& ~~~t) (b &&& ~~~s) ||| turnB g k (a &&& ~~~t) (b ||| s) ||| turnB g k (a ||| t) (b &&& ~~~s) ||| turnB g k (a ||| t) (b ||| s))) ∧
  wc.cell? ⟨w.heap.size + 1 + 1 + 1 + 1 + 1, 0, none⟩ = some (B8 (~~~(turnB g k (a &&& ~~~t) (b &&& ~~~s)) ||| ~~~(turnB g k (a &&& ~~~t) (b ||| s)) ||| ~~~(turnB g k (a ||| t) (b &&& ~~~s)) ||| ~~~(turnB g k (a ||| t) (b ||| s)))) ∧
  w.heap.size + 6 ≤ wc.heap.size ∧ (wc.cell? ⟨w.heap.size + 1 + 1 + 1, 0, none⟩ = some (.int .u8 0) ∧ wc.cell? ⟨w.heap.size + 1 + 1 + 1, 1, none⟩ = some (.int .u8 0) ∧
    wc.frozen? ⟨w.heap.size + 1 + 1 + 1, 0, none⟩ = false ∧ wc.frozen? ⟨w.heap.size + 1 + 1 + 1, 1, none⟩ = false) ∧ Below w.heap.size w wc

theorem cell_far (w : World) (a p : Addr) (v : Value) (h : p.block ≠ a.block) : (w.setCell a v).cell? p = w.cell? p := World.cell?_of_block (w := w) (Below.heap_setCell w a v p.block h)
theorem JoinMid.below {g k a t b s : BitVec 8} {w wc w1 : World} (h : JoinMid g k a t b s w wc) (hb : Below wc.heap.size wc w1) : JoinMid g k a t b s w w1 := by
  obtain ⟨q1, q2, q3, q4, q5, q6, q7, q8⟩ := h
  have hs := hb.size
  refine ⟨(hb.cell (by simp; omega)).trans q1, (hb.cell (by simp; omega)).trans q2, (hb.cell (by simp; omega)).trans q3, (hb.cell (by simp; omega)).trans q4, (hb.cell (by simp; omega)).trans q5, by omega, ⟨(hb.cell (by simp; omega)).trans q7.1, (hb.cell (by simp; omega)).trans q7.2.1, (hb.frozen (by simp; omega)).trans q7.2.2.1, (hb.frozen (by simp; omega)).trans q7.2.2.2⟩, q8.trans (hb.mono (by omega))⟩

set_option maxRecDepth 100000 in
set_option maxHeartbeats 2000000 in
theorem join_c (a t b s g k : BitVec 8) (w : World) : Calls Try.prog 38 #[TB a t, TB b s, .func (.func 39) #[TB g k] #[]] w
    fun e w' => e = .returned (TB (turnB g k a b) (joinB g k a t b s)) ∧ Below w.heap.size w w' := by
  have h1 := u8_and
  have h2 := u8_or
  have h3 := u8_xor
  have h4 := u8_andNot
  have h5 := u8_zor
  have h6 := u8_not'
  have i0 := idx8_0
  have i1 := idx8_1
  go_enter Try.func38, Try.ntmps38
  go_upto_block 0 with (go_in)
  go_cut [] (fun wc => JoinMid g k a t b s w wc)
  case first =>
    go_wp2
    refine wp_loop_rounds 3 ?_
    rw [rounds_succ]
    go_wp2
    refine wp_loop_rounds 3 ?_
    rw [rounds_succ]
    go_wp2
    rw [rounds_succ]
    go_wp2
    rw [rounds_succ]
    go_wp2
    rw [rounds_succ]
    go_wp2
    refine wp_loop_rounds 3 ?_
    rw [rounds_succ]
    go_wp2
    rw [rounds_succ]
    go_wp2
    rw [rounds_succ]
    go_wp2
    rw [rounds_succ]
    go_wp2
    go_meet
    case rel =>
      unfold JoinMid turnB
      refine ⟨?_, ?_, ?_, ?_, ?_, ?_, ?_, ?_⟩
      · go_cell
      · go_cell
      · go_cell
      · go_cell
      · go_cell
      · simp
      · exact ⟨by go_cell, by go_cell, by go_simp, by go_simp⟩
      · go_grown
  case rest =>
    have hm : JoinMid g k a t b s w wc.drew := hcut.below (Below.refl _ _).drew
    obtain ⟨q1, q2, q3, q4, q5, q6, q7, q8⟩ := hcut
    go_upto_region 12 with (fail)
    go_region_held3 (fun w' => w'.cell? ⟨w.heap.size, 0, none⟩ = some (B8 a) ∧ w'.cell? ⟨w.heap.size + 1, 0, none⟩ = some (B8 b) ∧ w'.cell? ⟨w.heap.size + 1 + 1, 0, none⟩ = some (.func (.func 39) #[TB g k] #[])
     ∧ w'.cell? ⟨w.heap.size + 1 + 1 + 1 + 1, 0, none⟩ = some (B8 (turnB g k (a &&& ~~~t) (b &&& ~~~s) ||| turnB g k (a &&& ~~~t) (b ||| s) ||| turnB g k (a ||| t) (b &&& ~~~s) ||| turnB g k (a ||| t) (b ||| s)))
     ∧ w'.cell? ⟨w.heap.size + 1 + 1 + 1 + 1 + 1, 0, none⟩ = some (B8 (~~~(turnB g k (a &&& ~~~t) (b &&& ~~~s)) ||| ~~~(turnB g k (a &&& ~~~t) (b ||| s)) ||| ~~~(turnB g k (a ||| t) (b &&& ~~~s)) ||| ~~~(turnB g k (a ||| t) (b ||| s))))
     ) (first | exact ⟨q1, q2, q3, q4, q5⟩ | (simp only [World.cell?_drew]; exact ⟨q1, q2, q3, q4, q5⟩) | exact ⟨hk.1, hk.2.1, hk.2.2.1, hk.2.2.2.1, hk.2.2.2.2.1⟩ | (refine ⟨?_, ?_, ?_, ?_, ?_⟩ <;> (rw [cell_far _ _ _ _ (by show _ ≠ _; dsimp only; omega), cell_far _ _ _ _ (by show _ ≠ _; dsimp only; omega)]; first | exact hk.1 | exact hk.2.1 | exact hk.2.2.1 | exact hk.2.2.2.1 | exact hk.2.2.2.2.1)))
    (first | (go_at_call 39; refine (turn_c g k a b _).mono ?_; rintro e w1 ⟨rfl, hb⟩; have hk := hm.below hb; obtain ⟨z0, z1, z2, z3⟩ := hk.2.2.2.2.2.2.1))
    go_wp2
    refine bodyPost_ret (v := TB (turnB g k a b) (joinB g k a t b s)) ?_ rfl ⟨rfl, (hk.2.2.2.2.2.2.2.setCell (by dsimp only; omega) _).setCell (by dsimp only; omega) _⟩
    simp [results, Try.results38, go_sem, z0, z1]
    exact ⟨rfl, rfl⟩
end Go.Proofs.Ytbbiegbfoimcaaa
