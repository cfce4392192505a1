/-
  The program: All, and its iterator: what it gives, for every body of a loop.
-/
import Derived.RangeFuncNested
import Derived.RangeFuncBound
import Derived.RangeFuncCalls
import Derived.RangeFuncLeaves
import Derived.Shelf.Abstract
import Derived.Shelf.RegionOpen
import Derived.WalkKit
import Derived.OwnWalkIn
import Derived.TacticsInMore
import Derived.LoopNIn
import Derived.LoopIn
import Derived.Sort.CutIn
import Derived.Test.YtcilnbkmaoneaaaDoorNewt9
set_option linter.unusedSimpArgs false
set_option linter.unusedVariables false
namespace Go.Proofs.YtcilnbkmaoneaaaDoor
open Go.RowKit Go.PlainAid Go.Shelf
attribute [local go_sem] Oper.semAt_some

/-- All's answer: the iterator, and its variable, a new block. -/
def allF (B : Nat) : Value := .func (.func 35) #[] #[.pointer (some ⟨B, 0, none⟩)]
def AllEnd (w : World) (t : Option Addr) : Ending → World → Prop := fun e w' => ∃ B, e = .returned (allF B) ∧ Below w.heap.size w w' ∧ w'.cell? ⟨B, 0, none⟩ = some (.pointer t) ∧ w.heap.size ≤ B ∧ B < w'.heap.size
set_option maxRecDepth 100000 in
theorem all_c (t : Option Addr) (w : World) : Calls Tryd.prog 17 #[.pointer t] w (AllEnd w t) := by
  have hmf : ∀ (fn : Fn) (first cap : Array Value) (w : World), (Instr.makeFunc fn first cap).run Tryd.prog w = .ok (.func fn first cap) w := fun fn first cap w => by simp [Instr.makeFunc]
  go_enter Tryd.func17, Tryd.ntmps17
  go_wp2
  go_ret
  exact ⟨w.heap.size, rfl, by go_grown, by go_simp, Nat.le_refl _, by simp⟩
theorem all_not_nil (B : Nat) (w : World) : (binOp .eql 47 (allF B) .nilFunc).run Tryd.prog w = .ok (.bool false) w := by
  unfold allF
  kernel_rfl
set_option maxRecDepth 100000 in
theorem alln_in (n : Nat) (hn : 1 ≤ n) (l B : Nat) (S : Int → Int) (J Jx : List (AdB S) → World → Prop) (W : World) (hc : W.cell? ⟨B, 0, none⟩ = some (.pointer none)) (h0 : J [] W) :
    CallsIn Fence.wide n Tryd.prog 35 #[.func (.yield l) #[] #[], .pointer (some ⟨B, 0, none⟩)] W fun e W' => (∃ v, e = .returned v) ∧ ((∃ xs, xs = [] ∧ J xs W') ∨ (∃ pre, False ∧ Jx pre W')) := by
  have H0 := Lib.hid h0
  clear h0
  refine callsIn_of_wp Tryd.func35 rfl trivial ?_ rfl
  simp only [Tryd.ntmps35, List.size_toArray, List.length_cons, List.length_nil, Nat.reduceAdd, Nat.reduceSub, Array.replicate_succ, Array.replicate_zero, List.push_toArray, List.append_toArray, List.nil_append, List.cons_append]
  gi_wp2
  refine bodyPost_ret (results_none rfl _ _ _) rfl ?_
  exact ⟨⟨_, rfl⟩, .inl ⟨_, rfl, H0.out⟩⟩
theorem alln_stops (n : Nat) (hn : 1 ≤ n) (B : Nat) (S : Int → Int) (Kp : World → World → Prop) (w : World) (hc : w.cell? ⟨B, 0, none⟩ = some (.pointer none)) :
    SeqStopsK Fence.wide n Tryd.prog 35 #[.pointer (some ⟨B, 0, none⟩)] (encB S) Kp (fun xs => xs = []) (fun _ => False) 70000 w :=
  fun l J Jx W hW _ _ _ h0 => alln_in n hn l B S J Jx W (kc hW hc) h0
/-- What the iterator asks of a body: that its variable, and the table, stay as they are. -/
def Kq (B tb : Nat) (A C : World) : Prop := C.heap[B]? = A.heap[B]? ∧ C.heap[tb]? = A.heap[tb]?
theorem Kq.refl {B tb : Nat} (A : World) : Kq B tb A A := ⟨rfl, rfl⟩
theorem Kq.trans {B tb : Nat} {A C D : World} (h : Kq B tb A C) (g : Kq B tb C D) : Kq B tb A D := ⟨g.1.trans h.1, g.2.trans h.2⟩
theorem Kq.below {B tb : Nat} {A C : World} {n : Nat} (h : Below n A C) (h1 : B < n) (h2 : tb < n) : Kq B tb A C := ⟨h.block B h1, h.block tb h2⟩
theorem Kq.set {B tb : Nat} {A C : World} (h : Kq B tb A C) (p : Addr) (v : Value) (h1 : B ≠ p.block) (h2 : tb ≠ p.block) : Kq B tb A (C.setCell p v) := ⟨(heap_setCell_other C p B v h1).trans h.1, (heap_setCell_other C p tb v h2).trans h.2⟩
theorem Kq.put {B tb : Nat} {w : World} (h1 : B < w.heap.size) (h2 : tb < w.heap.size) (W : World) (l : Nat) (o o' : Obj) (hl : w.heap.size ≤ l) (ho : W.heap[l]? = some o) (_ : o.isCells = false) (_ : o.isWalk = false) : Kq B tb W (W.putObj l o') := by
  have hb := belowK_b (w := w) (Nat.le_refl _) W l o o' hl ho (by assumption) (by assumption)
  exact Kq.below hb h1 h2
theorem grown_none9 {W u : World} (h : Below W.heap.size W u) : W.grownBy u none := ⟨h.os, h.tape, h.output, h.size, fun k hk _ => h.block k hk⟩
set_option maxRecDepth 100000 in
set_option maxHeartbeats 4000000 in
theorem allp_in (n : Nat) (hn : 1 ≤ n) (l B tb : Nat) (S : Int → Int) (J Jx : List (AdB (S)) → World → Prop) (W : World) (hJ : AbidesFrom W.heap.size J)
    (hY : ∀ pre x W1, J pre W1 → pre.length < 70000 → YieldAt Fence.wide (n - 1) Tryd.prog l (encB (S) x) W1 fun e W' =>
      (e = .returned (.bool true) ∧ J (pre ++ [x]) W' ∧ Kq B tb W1 W') ∨ (e = .returned (.bool false) ∧ Jx (pre ++ [x]) W'))
    (hc : W.cell? ⟨B, 0, none⟩ = some (.pointer (some ⟨tb, 0, none⟩))) (hC : ∀ k : Nat, k < 65536 → W.cell? ⟨tb, 4 + k, none⟩ = some (.int .u8 (S (k : Int)))) (h0 : J [] W) :
    CallsIn Fence.wide n Tryd.prog 35 #[.func (.yield l) #[] #[], .pointer (some ⟨B, 0, none⟩)] W fun e W' => (∃ v, e = .returned v) ∧ ((∃ xs, xs = upB (S) 65536 ∧ J xs W') ∨ (∃ pre, (∃ k, k ≤ 65536 ∧ pre = upB (S) k) ∧ Jx pre W')) := by
  have HJ : Hid (∀ s A B, J s A → A.grownBy B none → J s B) := Lib.hid (fun s A B h hg => hJ s A B none h hg (fun r e => by cases e))
  have HY := Lib.hid hY
  have H0 := Lib.hid h0
  have HC := Lib.hid hC
  clear hJ hY h0 hC
  obtain ⟨G, hG⟩ : ∃ G : Nat, 65536 = G := ⟨_, rfl⟩
  have HG := Lib.hid hG
  clear hG
  refine callsIn_of_wp Tryd.func35 rfl trivial ?_ rfl
  simp only [Tryd.ntmps35, List.size_toArray, List.length_cons, List.length_nil, Nat.reduceAdd, Nat.reduceSub, Array.replicate_succ, Array.replicate_zero, List.push_toArray, List.append_toArray, List.nil_append, List.cons_append]
  gi_wp2
  gi_loopw [7] (fun i wr => ∃ k : Nat, k ≤ G ∧ i = .int .i64 k ∧ Hid (J (upB S k) wr) ∧ Hid (Kq B tb W wr)) (fun i _ => G - (intOf i).toNat)
  case atStart => exact ⟨0, by omega, rfl, H0, Lib.hid (Kq.refl _)⟩
  case round =>
    obtain ⟨k, hkG, rfl, HJk, HB⟩ := hrel
    have HKG := Lib.hid hkG
    have hB0 := (World.cell?_of_block HB.out.1).trans hc
    clear hkG hc
    by_cases hlt : k < 65536
    · have hd : decide ((k : Int) < 65536) = true := decide_eq_true (by omega)
      have hw1 : IntKind.i64.wrap ((k : Int) + 1) = (k : Int) + 1 := IntWalk.i64_in _ (by omega)
      have hin : (0 : Int) ≤ (k : Int) ∧ (k : Int) < 65536 := by omega
      have x0 := (World.cell?_of_block HB.out.2).trans (HC.out k hlt)
      cases ho : (S (k : Int) == 0)
      · have hno : ¬ S (k : Int) = 0 := by simpa using ho
        have HYk := Lib.hid (show ∀ W1, J (upB S k) W1 → YieldAt Fence.wide (n - 1) Tryd.prog l #[.int .i64 (k : Int), .int .u8 (S (k : Int))] W1 (fun e W' =>
            (e = .returned (.bool true) ∧ J (upB S (k + 1)) W' ∧ Kq B tb W1 W') ∨ (e = .returned (.bool false) ∧ Jx (upB S (k + 1)) W')) from fun W1 h => by
          rw [upB_yes S k ⟨hlt, hno⟩]
          exact HY.out (upB S k) ⟨k, hlt, hno⟩ W1 h (by have := upB_len S k; omega))
        have hbne : (S (k : Int) != 0) = true := by simp [bne, ho]
        clear hno
        generalize S (k : Int) = m1 at *
        gi_upto_region 5 with fail
        obtain ⟨fn, tmps, assign, body, hy, hR⟩ := HYk.out _ HJk.out
        have hR' := Lib.hid hR
        clear hR hd hin
        gi_wp2_with fail
        refine hR'.out.mono ?_
        rintro e W3 (⟨rfl, hJ3, hk3⟩ | ⟨rfl, hx3⟩)
        · have HB3 := Lib.hid (HB.out.trans hk3)
          have HJ3 := Lib.hid hJ3
          clear hk3 hJ3
          gi_wp2
          go_roundw
          case rel => exact ⟨k + 1, by have := HG.out; omega, by go_num, HJ3, HB3⟩
          case measure => have := HG.out; simp [intOf] <;> omega
        · have HX3 := Lib.hid hx3
          clear hx3
          gi_wp2
          refine bodyPost_ret (results_none rfl _ _ _) rfl ?_
          exact ⟨⟨_, rfl⟩, .inr ⟨_, ⟨k + 1, by omega, rfl⟩, HX3.out⟩⟩
      · have hno : S (k : Int) = 0 := by simpa using ho
        have hup := Lib.hid (upB_no S k hno)
        have hbne : (S (k : Int) != 0) = false := by simp [bne, ho]
        clear hno
        generalize S (k : Int) = m1 at *
        gi_upto_region 5 with fail
        have hJ2 := Lib.hid (show J (upB S (k + 1)) wr from by rw [hup.out]; exact HJk.out)
        clear hd hin
        gi_wp2_with fail
        refine ⟨fun _ h => (by cases h), ?_⟩
        gi_wp2
        go_roundw
        case rel => exact ⟨k + 1, by have := HG.out; omega, by go_num, hJ2, HB⟩
        case measure => have := HG.out; simp [intOf] <;> omega
    · have hd : decide ((k : Int) < 65536) = false := decide_eq_false (by omega)
      have hk : k = 65536 := by have := HG.out; have := HKG.out; omega
      have HF := Lib.hid (show J (upB S 65536) wr from by have := HJk.out; rw [hk] at this; exact this)
      clear hk
      gi_wp2
      go_end0
      exact ⟨⟨_, rfl⟩, .inl ⟨_, rfl, HF.out⟩⟩
theorem allp_stops (n : Nat) (hn : 1 ≤ n) (B tb : Nat) (P : Pol) (w : World) (hc : w.cell? ⟨B, 0, none⟩ = some (.pointer (some ⟨tb, 0, none⟩))) (hP : Tp tb P w) :
    SeqStopsK Fence.wide n Tryd.prog 35 #[.pointer (some ⟨B, 0, none⟩)] (encB (bitsR P.s)) (Kq B tb) (fun xs => xs = upB (bitsR P.s) 65536) (fun pre => ∃ k, k ≤ 65536 ∧ pre = upB (bitsR P.s) k) 70000 w :=
  fun l J Jx W hW hJ _ hY h0 => allp_in n hn l B tb (bitsR P.s) J Jx W hJ hY (kc hW hc) (by obtain ⟨x, y, hT, _, _⟩ := (hP.below hW).row; exact hT.sec) h0
end Go.Proofs.YtcilnbkmaoneaaaDoor
