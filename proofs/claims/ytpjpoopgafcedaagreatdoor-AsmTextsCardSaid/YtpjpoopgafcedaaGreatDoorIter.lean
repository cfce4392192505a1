/-
  All's iterator: what it gives, for every body of a loop.
-/
import Derived.RangeFuncNested
import Derived.RangeFuncBound
import Derived.RangeFuncCalls
import Derived.RangeFuncLeaves
import Derived.Shelf.Abstract
import Derived.Shelf.RegionOpen
import Derived.WalkKit
import Derived.OwnWalkIn
import Derived.TacticsInMore
import Derived.LoopNIn
import Derived.LoopIn
import Derived.Test.YtpjpoopgafcedaaGreatDoorOf
set_option linter.unusedSimpArgs false
set_option linter.unusedVariables false
namespace Go.Proofs.YtpjpoopgafcedaaGreatDoor
open Go.RowKit Go.PlainAid Go.Shelf
attribute [local go_sem] Oper.semAt_some

/-- An opcode's byte. -/
abbrev OpB := { b : Nat // b < 256 ∧ isOp b = true }
def opA (b : Nat) : Array Value := #[.string ⟨(nm b).toArray⟩, .int .i64 (md b), .int .i64 (kindP (nm b) (md b))]
abbrev encB (x : OpB) : Array Value := #[.int .u8 x.1, .agg (opA x.1)]
/-- The opcodes' bytes below k, rising. -/
def upB : Nat → List OpB
  | 0 => []
  | k + 1 => if h : k < 256 ∧ isOp k = true then upB k ++ [⟨k, h⟩] else upB k
theorem upB_len : ∀ k, (upB k).length ≤ k
  | 0 => by simp [upB]
  | k + 1 => by
    have := upB_len k
    unfold upB
    split
    · simp; omega
    · omega
theorem upB_yes (k : Nat) (h : k < 256 ∧ isOp k = true) : upB (k + 1) = upB k ++ [⟨k, h⟩] := by
  conv => lhs; unfold upB
  rw [dif_pos h]
theorem upB_no (k : Nat) (h : isOp k = false) : upB (k + 1) = upB k := by
  conv => lhs; unfold upB
  rw [dif_neg (by rw [h]; simp)]
theorem grown_of_below {W u : World} (h : Below W.heap.size W u) : W.grownBy u none := ⟨h.os, h.tape, h.output, h.size, fun k hk _ => h.block k hk⟩
theorem of_yes (b : Nat) (hb : b < 256) (ho : isOp b = true) (w : World) : Calls Tryz.prog 27 #[.int .u8 b] w fun e w' => e = .returned (.tuple #[.agg (opA b), .int .i64 0]) ∧ Below w.heap.size w w' := by
  have hv : ofV b = .tuple #[.agg (opA b), .int .i64 0] := by unfold ofV opC errOf opA; rw [ho]; rfl
  rw [← hv]; exact of_c b hb w
theorem of_no (b : Nat) (hb : b < 256) (ho : isOp b = false) (w : World) : Calls Tryz.prog 27 #[.int .u8 b] w fun e w' => e = .returned (.tuple #[.agg #[.string ⟨#[]⟩, .int .i64 0, .int .i64 0], .int .i64 13]) ∧ Below w.heap.size w w' := by
  have hv : ofV b = .tuple #[.agg #[.string ⟨#[]⟩, .int .i64 0, .int .i64 0], .int .i64 13] := by unfold ofV opC errOf; rw [ho]; rfl
  rw [← hv]; exact of_c b hb w

set_option maxRecDepth 100000 in
set_option maxHeartbeats 2000000 in
theorem iter_in (n : Nat) (hn : 1 ≤ n) (l : Nat) (J Jx : List OpB → World → Prop) (W : World) (hJ : AbidesFrom W.heap.size J)
    (hY : ∀ pre x W1, J pre W1 → pre.length < 256 → YieldAt Fence.wide (n - 1) Tryz.prog l (encB x) W1 fun e W' =>
      (e = .returned (.bool true) ∧ J (pre ++ [x]) W' ∧ KeepsWalks W1 W') ∨ (e = .returned (.bool false) ∧ Jx (pre ++ [x]) W'))
    (h0 : J [] W) :
    CallsIn Fence.wide n Tryz.prog 76 #[.func (.yield l) #[] #[]] W fun e W' => (∃ v, e = .returned v) ∧ ((∃ xs, xs = upB 256 ∧ J xs W') ∨ (∃ pre, (∃ k, k ≤ 256 ∧ pre = upB k) ∧ Jx pre W')) := by
  have HJ : Hid (∀ s A B, J s A → A.grownBy B none → J s B) := fun s A B h hg => hJ s A B none h hg (fun r e => by cases e)
  clear hJ
  refine callsIn_of_wp Tryz.func76 rfl trivial ?_ rfl
  simp only [Tryz.ntmps76, List.size_toArray, List.length_cons, List.length_nil, Nat.reduceAdd, Nat.reduceSub, Array.replicate_succ, Array.replicate_zero, List.push_toArray, List.append_toArray, List.nil_append, List.cons_append]
  gi_wp2
  gi_loopw [5] (fun i wr => ∃ k : Nat, k ≤ 256 ∧ i = .int .i64 k ∧ Hid (J (upB k) wr)) (fun i _ => 256 - (intOf i).toNat)
  case atStart => exact ⟨0, by omega, rfl, h0⟩
  case round =>
    obtain ⟨k, hk, rfl, HJk⟩ := hrel
    by_cases hlt : k < 256
    · have hd : decide ((k : Int) < 256) = true := decide_eq_true (by omega)
      have w8 : IntKind.u8.wrap (k : Int) = k := by rw [IntKind.wrap_u8]; omega
      cases ho : isOp k
      · have HO := Lib.hid (fun w => of_no k hlt ho w)
        gi_wp2_with (refine ⟨trivial, ?_⟩; gi_at_call 27; refine (callsIn_wide.2 (HO.out _)).mono ?_; rintro _ u ⟨rfl, hb0⟩)
        refine ⟨fun _ h => (by cases h), ?_⟩
        gi_wp2
        have hJu := HJ.out _ _ _ HJk.out (grown_of_below hb0)
        have hJ2 := HJ.out _ _ _ hJu (World.grownBy_alloc u (.cells #[.string ⟨#[]⟩, .int .i64 0, .int .i64 0] 46) none)
        go_roundw
        case rel => exact ⟨k + 1, by omega, by go_num, Lib.hid (by rw [upB_no k ho]; exact hJ2)⟩
        case measure => simp [intOf]; omega
      · have HO := Lib.hid (fun w => of_yes k hlt ho w)
        have HYk := Lib.hid (fun W1 (h : J (upB k) W1) => hY (upB k) ⟨k, hlt, ho⟩ W1 h (by have := upB_len k; omega))
        have hup := Lib.hid (upB_yes k ⟨hlt, ho⟩)
        dsimp only [encB, opA] at HYk HO
        generalize ByteArray.mk (nm k).toArray = S at *
        generalize kindP (nm k) (md k) = K at *
        generalize md k = M at *
        gi_wp2_with (refine ⟨trivial, ?_⟩; gi_at_call 27; refine (callsIn_wide.2 (HO.out _)).mono ?_; rintro _ u ⟨rfl, hb0⟩; have hJu := HJ.out _ _ _ HJk.out (grown_of_below hb0); have hJu2 := HJ.out _ _ _ hJu (World.grownBy_alloc u (.cells #[.string S, .int .i64 M, .int .i64 K] 46) none); obtain ⟨fn, tmps, assign, body, hy, hR⟩ := HYk.out _ hJu2; have hR' := Lib.hid hR; clear hJu hJu2 hR)
        refine hR'.out.mono ?_
        rintro e W3 (⟨rfl, hJ3, _⟩ | ⟨rfl, hx3⟩)
        · gi_wp2
          go_roundw
          case rel => exact ⟨k + 1, by omega, by go_num, Lib.hid (by rw [hup.out]; exact hJ3)⟩
          case measure => simp [intOf]; omega
        · gi_wp2
          refine bodyPost_ret (results_none rfl _ _ _) rfl ?_
          exact ⟨⟨_, rfl⟩, .inr ⟨_, ⟨k + 1, by omega, hup.out.symm⟩, hx3⟩⟩
    · have hk8 : k = 256 := by omega
      subst hk8
      gi_wp2
      go_end0
      exact ⟨⟨_, rfl⟩, .inl ⟨_, rfl, HJk.out⟩⟩

/-- **All's value: all opcodes, by rising bytes; or those below some byte, where a round has said 'no more'.** -/
theorem iter_stops (n : Nat) (hn : 1 ≤ n) (w : World) : SeqStopsK Fence.wide n Tryz.prog 76 #[] encB KeepsWalks (fun xs => xs = upB 256) (fun pre => ∃ k, k ≤ 256 ∧ pre = upB k) 256 w :=
  fun l J Jx W _ hJ _ hY h0 => iter_in n hn l J Jx W hJ hY h0
theorem all_c (w : World) : Calls Tryz.prog 57 #[] w fun e w' => e = .returned (.func (.func 76) #[] #[]) ∧ w = w' := by
  go_enter Tryz.func57, Tryz.ntmps57
  go_wp2
  go_ret
  exact ⟨rfl, rfl⟩
end Go.Proofs.YtpjpoopgafcedaaGreatDoor
