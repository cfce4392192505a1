/-
  The program: Secret, and its iterator: what it gives, for every body of a loop.
-/
import Derived.RangeFuncNested
import Derived.RangeFuncBound
import Derived.RangeFuncCalls
import Derived.RangeFuncLeaves
import Derived.Shelf.Abstract
import Derived.Shelf.RegionOpen
import Derived.WalkKit
import Derived.OwnWalkIn
import Derived.TacticsInMore
import Derived.LoopNIn
import Derived.LoopIn
import Derived.Test.YtcilnbkmaoneaaaDoorLaw8
set_option linter.unusedSimpArgs false
set_option linter.unusedVariables false
namespace Go.Proofs.YtcilnbkmaoneaaaDoor
open Go.RowKit Go.PlainAid Go.Shelf
attribute [local go_sem] Oper.semAt_some

/-- Secret's answer: the iterator, and its variable, a new block. -/
def secF (B : Nat) : Value := .func (.func 31) #[] #[.pointer (some ⟨B, 0, none⟩)]
set_option maxRecDepth 100000 in
theorem secretn_c (w : World) : Calls Tryd.prog 14 #[.pointer none] w fun e w' => ∃ B, e = .returned (secF B) ∧ Below w.heap.size w w' ∧ w'.cell? ⟨B, 0, none⟩ = some (.pointer none) ∧ w.heap.size ≤ B ∧ B < w'.heap.size := by
  have hmf : ∀ (fn : Fn) (first cap : Array Value) (w : World), (Instr.makeFunc fn first cap).run Tryd.prog w = .ok (.func fn first cap) w := fun fn first cap w => by simp [Instr.makeFunc]
  go_enter Tryd.func14, Tryd.ntmps14
  go_wp2_with fail
  refine (clonen_c _).mono ?_
  rintro _ u ⟨rfl, hb⟩
  have hz := hb.size
  go_wp2
  go_ret
  exact ⟨u.heap.size, rfl, by go_grown, by go_simp, by omega, by simp⟩
/-- What Secret of a memory answers: its variable holds a memory of its own, the same. -/
def SecEnd (w : World) (M : Int → Int × Int) : Ending → World → Prop := fun e w' => ∃ B cb cbb, e = .returned (secF B) ∧ Below w.heap.size w w' ∧ w'.cell? ⟨B, 0, none⟩ = some (.pointer (some ⟨cb, 0, none⟩)) ∧ Pm cb cbb w' M ∧ w.heap.size ≤ B ∧ w.heap.size ≤ cb ∧ w.heap.size ≤ cbb
set_option maxRecDepth 100000 in
theorem secretp_c (M : Int → Int × Int) (mb bb : Nat) (w : World) (hP : Pm mb bb w M) : Calls Tryd.prog 14 #[.pointer (some ⟨mb, 0, none⟩)] w (SecEnd w M) := by
  have hmf : ∀ (fn : Fn) (first cap : Array Value) (w : World), (Instr.makeFunc fn first cap).run Tryd.prog w = .ok (.func fn first cap) w := fun fn first cap w => by simp [Instr.makeFunc]
  have HC := Lib.hid (clone_x M mb bb w hP)
  clear hP
  go_enter Tryd.func14, Tryd.ntmps14
  go_wp2_with fail
  refine (HC.out).mono ?_
  rintro _ u ⟨cb, cbb, rfl, hb, hP, h1, h2⟩
  have hz := hb.size
  have HP := Lib.hid hP
  clear hP
  go_wp2
  go_ret
  exact ⟨u.heap.size, cb, cbb, rfl, by go_grown, by go_simp, HP.out.below (by go_grown), by omega, h1, h2⟩
/-- An address whose byte has secret bits. -/
abbrev SecB (M : Int → Int × Int) := { k : Nat // k < 65536 ∧ ¬ (M (k : Int)).2 = 0 }
abbrev encS (M : Int → Int × Int) (x : SecB M) : Array Value := #[.int .i64 ((x.1 : Nat) : Int), .agg #[.int .u8 (M (x.1 : Int)).1, .int .u8 (M (x.1 : Int)).2]]
open Classical in
/-- Those below k, rising. -/
noncomputable def upS (M : Int → Int × Int) : Nat → List (SecB M)
  | 0 => []
  | k + 1 => if h : k < 65536 ∧ ¬ (M (k : Int)).2 = 0 then upS M k ++ [⟨k, h⟩] else upS M k
theorem upS_yes (M : Int → Int × Int) (k : Nat) (h : k < 65536 ∧ ¬ (M (k : Int)).2 = 0) : upS M (k + 1) = upS M k ++ [⟨k, h⟩] := by
  conv => lhs; unfold upS
  rw [dif_pos h]
theorem upS_no (M : Int → Int × Int) (k : Nat) (h : (M (k : Int)).2 = 0) : upS M (k + 1) = upS M k := by
  conv => lhs; unfold upS
  rw [dif_neg (by rw [h]; simp)]
theorem upS_len (M : Int → Int × Int) : ∀ k, (upS M k).length ≤ k
  | 0 => by simp [upS]
  | k + 1 => by
    have := upS_len M k
    unfold upS
    split
    · simp; omega
    · omega
theorem grown_of_below {W u : World} (h : Below W.heap.size W u) : W.grownBy u none := ⟨h.os, h.tape, h.output, h.size, fun k hk _ => h.block k hk⟩
set_option maxRecDepth 100000 in
theorem secn_in (n : Nat) (hn : 1 ≤ n) (l B : Nat) (M : Int → Int × Int) (J Jx : List (SecB M) → World → Prop) (W : World) (hc : W.cell? ⟨B, 0, none⟩ = some (.pointer none)) (h0 : J [] W) :
    CallsIn Fence.wide n Tryd.prog 31 #[.func (.yield l) #[] #[], .pointer (some ⟨B, 0, none⟩)] W fun e W' => (∃ v, e = .returned v) ∧ ((∃ xs, xs = [] ∧ J xs W') ∨ (∃ pre, False ∧ Jx pre W')) := by
  have H0 := Lib.hid h0
  clear h0
  refine callsIn_of_wp Tryd.func31 rfl trivial ?_ rfl
  simp only [Tryd.ntmps31, List.size_toArray, List.length_cons, List.length_nil, Nat.reduceAdd, Nat.reduceSub, Array.replicate_succ, Array.replicate_zero, List.push_toArray, List.append_toArray, List.nil_append, List.cons_append]
  gi_wp2
  refine bodyPost_ret (results_none rfl _ _ _) rfl ?_
  exact ⟨⟨_, rfl⟩, .inl ⟨_, rfl, H0.out⟩⟩
theorem secn_stops (n : Nat) (hn : 1 ≤ n) (B : Nat) (M : Int → Int × Int) (Kp : World → World → Prop) (w : World) (hc : w.cell? ⟨B, 0, none⟩ = some (.pointer none)) :
    SeqStopsK Fence.wide n Tryd.prog 31 #[.pointer (some ⟨B, 0, none⟩)] (encS M) Kp (fun xs => xs = []) (fun _ => False) 70000 w :=
  fun l J Jx W hW _ _ _ h0 => secn_in n hn l B M J Jx W (kc hW hc) h0
set_option maxRecDepth 100000 in
set_option maxHeartbeats 4000000 in
theorem secp_in (n : Nat) (hn : 1 ≤ n) (l B cb cbb n0 : Nat) (M : Int → Int × Int) (J Jx : List (SecB M) → World → Prop) (W : World) (hJ : AbidesFrom W.heap.size J)
    (hY : ∀ pre x W1, J pre W1 → pre.length < 70000 → YieldAt Fence.wide (n - 1) Tryd.prog l (encS M x) W1 fun e W' =>
      (e = .returned (.bool true) ∧ J (pre ++ [x]) W' ∧ Below n0 W1 W') ∨ (e = .returned (.bool false) ∧ Jx (pre ++ [x]) W'))
    (hc : W.cell? ⟨B, 0, none⟩ = some (.pointer (some ⟨cb, 0, none⟩))) (hP : Pm cb cbb W M) (h1 : B < n0) (h2 : cb < n0) (h3 : cbb < n0) (h4 : n0 ≤ W.heap.size) (h0 : J [] W) :
    CallsIn Fence.wide n Tryd.prog 31 #[.func (.yield l) #[] #[], .pointer (some ⟨B, 0, none⟩)] W fun e W' => (∃ v, e = .returned v) ∧ ((∃ xs, xs = upS M 65536 ∧ J xs W') ∨ (∃ pre, (∃ k, k ≤ 65536 ∧ pre = upS M k) ∧ Jx pre W')) := by
  have HJ : Hid (∀ s A B, J s A → A.grownBy B none → J s B) := Lib.hid (fun s A B h hg => hJ s A B none h hg (fun r e => by cases e))
  have HY := Lib.hid hY
  have H0 := Lib.hid h0
  have HP := Lib.hid hP
  have hm_0 := hP.c0
  clear hJ hY h0 hP
  obtain ⟨G, hG⟩ : ∃ G : Nat, 65536 = G := ⟨_, rfl⟩
  have HG := Lib.hid hG
  clear hG
  refine callsIn_of_wp Tryd.func31 rfl trivial ?_ rfl
  simp only [Tryd.ntmps31, List.size_toArray, List.length_cons, List.length_nil, Nat.reduceAdd, Nat.reduceSub, Array.replicate_succ, Array.replicate_zero, List.push_toArray, List.append_toArray, List.nil_append, List.cons_append]
  gi_wp2
  gi_loopw [11] (fun i wr => ∃ k : Nat, k ≤ G ∧ i = .int .i64 k ∧ Hid (J (upS M k) wr) ∧ Hid (Below n0 W wr)) (fun i _ => G - (intOf i).toNat)
  case atStart => exact ⟨0, by omega, rfl, H0, Lib.hid (Below.refl _ _)⟩
  case round =>
    obtain ⟨k, hkG, rfl, HJk, HB⟩ := hrel
    have HKG := Lib.hid hkG
    clear hkG hm_0 hc
    by_cases hlt : k < 65536
    · have hd : decide ((k : Int) < 65536) = true := decide_eq_true (by omega)
      have hw1 : IntKind.i64.wrap ((k : Int) + 1) = (k : Int) + 1 := IntWalk.i64_in _ (by omega)
      have hin : (0 : Int) ≤ (k : Int) ∧ (k : Int) < 65536 := by omega
      have hPr : Pm cb cbb wr M := HP.out.keep (HB.out.block cb h2) (HB.out.block cbb h3)
      have x0 := hPr.at0 k hlt
      have x1 := hPr.at1 k hlt
      have hlb := hPr.lt
      have hnz : n0 ≤ wr.heap.size := Nat.le_trans h4 HB.out.size
      clear hPr
      cases ho : ((M (k : Int)).2 == 0)
      · have hno : ¬ (M (k : Int)).2 = 0 := by simpa using ho
        have HYk := Lib.hid (show ∀ W1, J (upS M k) W1 → YieldAt Fence.wide (n - 1) Tryd.prog l #[.int .i64 (k : Int), .agg #[.int .u8 (M (k : Int)).1, .int .u8 (M (k : Int)).2]] W1 (fun e W' =>
            (e = .returned (.bool true) ∧ J (upS M (k + 1)) W' ∧ Below n0 W1 W') ∨ (e = .returned (.bool false) ∧ Jx (upS M (k + 1)) W')) from fun W1 h => by
          rw [upS_yes M k ⟨hlt, hno⟩]
          exact HY.out (upS M k) ⟨k, hlt, hno⟩ W1 h (by have := upS_len M k; omega))
        clear hno
        generalize (M (k : Int)).1 = m0 at *
        generalize (M (k : Int)).2 = m1 at *
        gi_wp2_with fail
        gi_region
        clear hd hin
        have hbne : (m1 != 0) = true := by simp [bne, ho]
        have hJ2 := HJ.out _ _ _ HJk.out (grown_of_below (((Below.refl _ wr).alloc (Nat.le_refl _) (.cells #[.int .u8 m0, .int .u8 m1] 42)).drew))
        have hB2 := Lib.hid (show Below n0 W (wr.alloc (.cells #[.int .u8 m0, .int .u8 m1] 42)).drew from ((HB.out).alloc hnz _).drew)
        obtain ⟨fn, tmps, assign, body, hy, hR⟩ := HYk.out _ hJ2
        have hR' := Lib.hid hR
        clear hJ2 hR
        gi_wp2_with fail
        refine hR'.out.mono ?_
        rintro e W3 (⟨rfl, hJ3, hk3⟩ | ⟨rfl, hx3⟩)
        · have HB3 := Lib.hid (hB2.out.trans hk3)
          have HJ3 := Lib.hid hJ3
          clear hk3 hJ3
          gi_wp2
          go_roundw
          case rel => exact ⟨k + 1, by have := HG.out; omega, by go_num, HJ3, HB3⟩
          case measure => have := HG.out; simp [intOf] <;> omega
        · have HX3 := Lib.hid hx3
          clear hx3
          gi_wp2
          refine bodyPost_ret (results_none rfl _ _ _) rfl ?_
          exact ⟨⟨_, rfl⟩, .inr ⟨_, ⟨k + 1, by omega, rfl⟩, HX3.out⟩⟩
      · have hno : (M (k : Int)).2 = 0 := by simpa using ho
        have hup := Lib.hid (upS_no M k hno)
        rw [hno] at x1
        clear hno ho
        generalize (M (k : Int)).1 = m0 at *
        gi_wp2_with fail
        gi_region
        clear hd hin
        have hJ2 := Lib.hid (show J (upS M (k + 1)) (wr.alloc (.cells #[.int .u8 m0, .int .u8 0] 42)).drew from by
          rw [hup.out]
          exact HJ.out _ _ _ HJk.out (grown_of_below (((Below.refl _ wr).alloc (Nat.le_refl _) (.cells #[.int .u8 m0, .int .u8 0] 42)).drew)))
        have hB2 := Lib.hid (show Below n0 W (wr.alloc (.cells #[.int .u8 m0, .int .u8 0] 42)).drew from ((HB.out).alloc hnz _).drew)
        gi_wp2_with fail
        refine ⟨fun _ h => (by cases h), ?_⟩
        gi_wp2
        go_roundw
        case rel => exact ⟨k + 1, by have := HG.out; omega, by go_num, hJ2, hB2⟩
        case measure => have := HG.out; simp [intOf] <;> omega
    · have hd : decide ((k : Int) < 65536) = false := decide_eq_false (by omega)
      have hk : k = 65536 := by have := HG.out; have := HKG.out; omega
      have HF := Lib.hid (show J (upS M 65536) wr from by have := HJk.out; rw [hk] at this; exact this)
      clear hk
      gi_wp2
      go_end0
      exact ⟨⟨_, rfl⟩, .inl ⟨_, rfl, HF.out⟩⟩
theorem secp_stops (n : Nat) (hn : 1 ≤ n) (B cb cbb n0 : Nat) (M : Int → Int × Int) (w : World) (hc : w.cell? ⟨B, 0, none⟩ = some (.pointer (some ⟨cb, 0, none⟩))) (hP : Pm cb cbb w M) (h1 : B < n0) (h2 : cb < n0) (h3 : cbb < n0) (h4 : n0 ≤ w.heap.size) :
    SeqStopsK Fence.wide n Tryd.prog 31 #[.pointer (some ⟨B, 0, none⟩)] (encS M) (Below n0) (fun xs => xs = upS M 65536) (fun pre => ∃ k, k ≤ 65536 ∧ pre = upS M k) 70000 w :=
  fun l J Jx W hW hJ _ hY h0 => secp_in n hn l B cb cbb n0 M J Jx W hJ hY (kc hW hc) (hP.below hW) h1 h2 h3 (Nat.le_trans h4 hW.size) h0
end Go.Proofs.YtcilnbkmaoneaaaDoor
