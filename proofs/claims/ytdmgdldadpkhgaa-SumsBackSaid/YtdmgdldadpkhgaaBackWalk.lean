/-
  SumsBack returns true: the walk.
-/
import Derived.Test.YtdmgdldadpkhgaaSignsWalk
import Derived.Test.YtdmgdldadpkhgaaPlanA
set_option linter.unusedSimpArgs false
set_option linter.unusedVariables false
namespace Go.Proofs.Ytdmgdldadpkhgaa
open Go.RowKit

theorem i64_u8b (x : BitVec 8) : IntKind.i64.wrap (u8 x) = u8 x := IntWalk.i64_in _ (by have := u8_lo x; have := u8_hi x; omega)
theorem sum_com (x y : BitVec 8) (c : Bool) : sumB y x c = sumB x y c := by unfold sumB; omega
theorem add_com (x y : BitVec 8) (c : Bool) : addV y x c = addV x y c := by
  unfold addV
  rw [sum_com]
  congr 2
  omega
theorem back_eq (x y : BitVec 8) (c : Bool) : (addV (addV x y c).a (~~~y) (!c)).a = x := by
  apply BitVec.eq_of_toNat_eq
  show (BitVec.ofInt 8 (u8 (BitVec.ofInt 8 (sumB x y c)) + u8 (~~~y) + cnt (!c))).toNat = _
  rw [u8_ofInt, u8_not_eq, BitVec.toNat_ofInt]
  have h1 := x.isLt
  have h2 := y.isLt
  unfold sumB u8
  cases c <;> simp only [cnt, Bool.not_false, Bool.not_true, if_true, if_false, Bool.false_eq_true] <;> omega
theorem nb_u8' (n : Int) : decide (128 ≤ u8 (BitVec.ofInt 8 n)) = nb n := by
  rw [u8_ofInt]
  unfold nb
  rw [Bool.eq_iff_iff, decide_eq_true_eq, beq_iff_eq]
  omega
theorem carry_eq (x y : BitVec 8) (c : Bool) : u8 x + u8 y + cnt c = u8 (addV x y c).a + if (addV x y c).c then 256 else 0 := by
  show _ = u8 (BitVec.ofInt 8 (sumB x y c)) + if decide (256 ≤ sumB x y c) = true then 256 else 0
  rw [u8_ofInt]
  have h1 := sumB_lo x y c
  have h2 := sumB_hi x y c
  have h3 : sumB x y c = u8 x + u8 y + cnt c := rfl
  by_cases h : 256 ≤ sumB x y c
  · rw [if_pos (decide_eq_true h)]; omega
  · rw [if_neg (by simpa using h)]; omega

set_option maxRecDepth 100000 in
set_option maxHeartbeats 8000000 in
theorem back_false_false (x y S : BitVec 8) (V n' v' z' c' : Bool)
    (hs : ∀ w, Calls Try.prog 12 #[TB x 0#8, TB y 0#8, TBit false false, TBit false false] w fun e w' => e = .returned (.agg #[B8 S, B8 0#8, .bool (decide (128 ≤ u8 S)), .bool false, .bool V, .bool false, .bool (S == 0#8), .bool false, .bool false, .bool false]) ∧ Below w.heap.size w w')
    (ht : ∀ w, Calls Try.prog 12 #[TB y 0#8, TB x 0#8, TBit false false, TBit false false] w fun e w' => e = .returned (.agg #[B8 S, B8 0#8, .bool (decide (128 ≤ u8 S)), .bool false, .bool V, .bool false, .bool (S == 0#8), .bool false, .bool false, .bool false]) ∧ Below w.heap.size w w')
    (hd : ∀ w, Calls Try.prog 15 #[TB S 0#8, TB y 0#8, TBit true false, TBit false false] w fun e w' => e = .returned (.agg #[B8 x, B8 0#8, .bool n', .bool false, .bool v', .bool false, .bool z', .bool false, .bool c', .bool false]) ∧ Below w.heap.size w w')
    (hN : u8 x + u8 y = u8 S) (w : World) : Calls Try.prog 7 #[B8 x, B8 y, .bool false] w (LawEnd w) := by
  have x1 := u8_lo x
  have x2 := u8_hi x
  have y1 := u8_lo y
  have y2 := u8_hi y
  have s1 := u8_lo S
  have s2 := u8_hi S
  have k1 := u8_beq0
  have k2 := u8_beq
  have k3 := i64_u8b
  have HS := Lib.hid hs
  have HT := Lib.hid ht
  have HD := Lib.hid hd
  clear hs ht hd
  go_enter Try.func7, Try.ntmps7
  go_wp2_with fail
  refine wp_region_planA 10 9 8 #[.int .u8 0, .int .u8 0, .bool false, .bool false, .bool false, .bool false, .bool false, .bool false, .bool false, .bool false] 30 (fun w' => w'.cell? ⟨w.heap.size, 0, none⟩ = some (.bool false) ∧ w'.cell? ⟨w.heap.size, 1, none⟩ = some (.bool false) ∧ Below w.heap.size w w') (fun bs w' => w'.cell? ⟨bs, 0, none⟩ = some (.int .u8 0) ∧ w'.frozen? ⟨bs, 0, none⟩ = false ∧ w'.cell? ⟨bs, 1, none⟩ = some (.int .u8 0) ∧ w'.frozen? ⟨bs, 1, none⟩ = false ∧ w'.cell? ⟨bs, 2, none⟩ = some (.bool false) ∧ w'.frozen? ⟨bs, 2, none⟩ = false ∧ w'.cell? ⟨bs, 3, none⟩ = some (.bool false) ∧ w'.frozen? ⟨bs, 3, none⟩ = false ∧ w'.cell? ⟨bs, 4, none⟩ = some (.bool false) ∧ w'.frozen? ⟨bs, 4, none⟩ = false ∧ w'.cell? ⟨bs, 5, none⟩ = some (.bool false) ∧ w'.frozen? ⟨bs, 5, none⟩ = false ∧ w'.cell? ⟨bs, 6, none⟩ = some (.bool false) ∧ w'.frozen? ⟨bs, 6, none⟩ = false ∧ w'.cell? ⟨bs, 7, none⟩ = some (.bool false) ∧ w'.frozen? ⟨bs, 7, none⟩ = false ∧ w'.cell? ⟨bs, 8, none⟩ = some (.bool false) ∧ w'.frozen? ⟨bs, 8, none⟩ = false ∧ w'.cell? ⟨bs, 9, none⟩ = some (.bool false) ∧ w'.frozen? ⟨bs, 9, none⟩ = false ∧ w.heap.size ≤ bs ∧ w.heap.size < bs) (by kernel_rfl) (by kernel_rfl) (by kernel_rfl) (by kernel_rfl) (by kernel_rfl) ?_ (fun W w1 hSw hb => ⟨kc hb hSw.1, kc hb hSw.2.1, kb hSw.2.2 hb⟩) (fun bs W w1 hEw hb => ⟨kc hb hEw.1, kfz hb (klt hEw.1) hEw.2.1, kc hb hEw.2.2.1, kfz hb (klt hEw.2.2.1) hEw.2.2.2.1, kc hb hEw.2.2.2.2.1, kfz hb (klt hEw.2.2.2.2.1) hEw.2.2.2.2.2.1, kc hb hEw.2.2.2.2.2.2.1, kfz hb (klt hEw.2.2.2.2.2.2.1) hEw.2.2.2.2.2.2.2.1, kc hb hEw.2.2.2.2.2.2.2.2.1, kfz hb (klt hEw.2.2.2.2.2.2.2.2.1) hEw.2.2.2.2.2.2.2.2.2.1, kc hb hEw.2.2.2.2.2.2.2.2.2.2.1, kfz hb (klt hEw.2.2.2.2.2.2.2.2.2.2.1) hEw.2.2.2.2.2.2.2.2.2.2.2.1, kc hb hEw.2.2.2.2.2.2.2.2.2.2.2.2.1, kfz hb (klt hEw.2.2.2.2.2.2.2.2.2.2.2.2.1) hEw.2.2.2.2.2.2.2.2.2.2.2.2.2.1, kc hb hEw.2.2.2.2.2.2.2.2.2.2.2.2.2.2.1, kfz hb (klt hEw.2.2.2.2.2.2.2.2.2.2.2.2.2.2.1) hEw.2.2.2.2.2.2.2.2.2.2.2.2.2.2.2.1, kc hb hEw.2.2.2.2.2.2.2.2.2.2.2.2.2.2.2.2.1, kfz hb (klt hEw.2.2.2.2.2.2.2.2.2.2.2.2.2.2.2.2.1) hEw.2.2.2.2.2.2.2.2.2.2.2.2.2.2.2.2.2.1, kc hb hEw.2.2.2.2.2.2.2.2.2.2.2.2.2.2.2.2.2.2.1, kfz hb (klt hEw.2.2.2.2.2.2.2.2.2.2.2.2.2.2.2.2.2.2.1) hEw.2.2.2.2.2.2.2.2.2.2.2.2.2.2.2.2.2.2.2.1, hEw.2.2.2.2.2.2.2.2.2.2.2.2.2.2.2.2.2.2.2.2⟩) ?_ ?_ ?_
  · intro a W; show (execOp _ _).run _ _ = _; first | rfl | kernel_rfl
  · intro W hSw
    have hzW := (hSw.2.2).size
    have hkW0 := klt (hSw.1)
    refine ⟨?_, ?_, ?_, ?_, ?_, ?_, ?_, ?_, ?_, ?_, ?_, ?_, ?_, ?_, ?_, ?_, ?_, ?_, ?_, ?_, ?_, ?_⟩ <;> first | (go_simp; done) | omega | (dsimp only; omega)
  · (try dsimp only)
    refine ⟨?_, ?_, ?_⟩ <;> first | (go_simp; done) | (simp [*]; done) | go_grown
  (try simp only [List.append_eq, List.cons_append, List.nil_append, List.toList_toArray, List.take_succ_cons, List.take_zero, List.drop_succ_cons, List.drop_zero])
  repeat (first
    | (refine PlanA.skip (by decide) ?_)
    | (refine PlanA.val (v := ?_) (by decide) ?_ ?_ ?_; rotate_left; (· rfl); (· (intro W hSw; (try dsimp only at hSw); go_simp; all_goals (first | (with_reducible rfl) | (constructor <;> (with_reducible rfl))))); (try simp only [Act.put, List.setIfInBounds_toArray, List.set_cons_zero, List.set_cons_succ]))
    | (refine PlanA.no (by decide) ?_ ?_; (· rfl); (try simp only [Act.put, List.setIfInBounds_toArray, List.set_cons_zero, List.set_cons_succ]))
    | (refine PlanA.call (v := ?_) (f := ?_) (args := ?_) (by decide) ?_ ?_ ?_ ?_; rotate_left 3; (· rfl); (· (intro W hSw; (try dsimp only at hSw); go_simp; all_goals (first | (with_reducible rfl) | (constructor <;> (with_reducible rfl))))); (· (intro W hSw; (try dsimp only at hSw); first | (go_at_call 25; ((with_reducible refine (ofB_c (u8 x) x rfl _).mono ?_); rintro _ wz ⟨rfl, hb⟩; (refine ⟨?_, hb⟩; with_reducible rfl))) | (go_at_call 25; ((with_reducible refine (ofB_c (u8 y) y rfl _).mono ?_); rintro _ wz ⟨rfl, hb⟩; (refine ⟨?_, hb⟩; with_reducible rfl))) | (go_at_call 12; ((with_reducible refine (HS.out _).mono ?_); rintro _ wz ⟨rfl, hb⟩; (refine ⟨?_, hb⟩; with_reducible rfl))))); (try simp only [Act.put, List.setIfInBounds_toArray, List.set_cons_zero, List.set_cons_succ])))
  refine PlanA.done ?_
  intro bs w1 T E
  (try dsimp only at T E)
  (try simp only [Act.put, List.setIfInBounds_toArray, List.set_cons_zero, List.set_cons_succ])
  obtain ⟨hci_0, hci_1, hB⟩ := T
  obtain ⟨hs_0, fs_0, hs_1, fs_1, hs_2, fs_2, hs_3, fs_3, hs_4, fs_4, hs_5, fs_5, hs_6, fs_6, hs_7, fs_7, hs_8, fs_8, hs_9, fs_9, hg_bs, hq_bs_ci⟩ := E
  have hr_bs_ci : ¬ w.heap.size = bs := by omega
  have hs_bs_ci : ¬ bs = w.heap.size := by omega
  have hsz := hB.size
  have hlci := klt hci_0
  have hls := klt hs_0
  have hnci0 : ¬ (w.heap.size = w1.heap.size) := by omega
  have hnci1 : ¬ (w.heap.size = w1.heap.size + 1) := by omega
  have hkci1 : w.heap.size < w1.heap.size + 1 := by omega
  have hnci2 : ¬ (w.heap.size = w1.heap.size + 1 + 1) := by omega
  have hkci2 : w.heap.size < w1.heap.size + 1 + 1 := by omega
  have hns0 : ¬ (bs = w1.heap.size) := by omega
  have hns1 : ¬ (bs = w1.heap.size + 1) := by omega
  have hks1 : bs < w1.heap.size + 1 := by omega
  have hns2 : ¬ (bs = w1.heap.size + 1 + 1) := by omega
  have hks2 : bs < w1.heap.size + 1 + 1 := by omega
  go_wp2_with fail
  refine wp_region_planA 10 9 9 #[.int .u8 0, .int .u8 0, .bool false, .bool false, .bool false, .bool false, .bool false, .bool false, .bool false, .bool false] 30 (fun w' => w'.cell? ⟨w.heap.size, 0, none⟩ = some (.bool false) ∧ w'.cell? ⟨w.heap.size, 1, none⟩ = some (.bool false) ∧ w'.cell? ⟨bs, 0, none⟩ = some (B8 S) ∧ w'.cell? ⟨bs, 1, none⟩ = some (B8 0#8) ∧ w'.cell? ⟨bs, 2, none⟩ = some (.bool (decide (128 ≤ u8 S))) ∧ w'.cell? ⟨bs, 3, none⟩ = some (.bool false) ∧ w'.cell? ⟨bs, 4, none⟩ = some (.bool V) ∧ w'.cell? ⟨bs, 5, none⟩ = some (.bool false) ∧ w'.cell? ⟨bs, 6, none⟩ = some (.bool (S == 0#8)) ∧ w'.cell? ⟨bs, 7, none⟩ = some (.bool false) ∧ w'.cell? ⟨bs, 8, none⟩ = some (.bool false) ∧ w'.cell? ⟨bs, 9, none⟩ = some (.bool false) ∧ Below w.heap.size w w') (fun bt w' => w'.cell? ⟨bt, 0, none⟩ = some (.int .u8 0) ∧ w'.frozen? ⟨bt, 0, none⟩ = false ∧ w'.cell? ⟨bt, 1, none⟩ = some (.int .u8 0) ∧ w'.frozen? ⟨bt, 1, none⟩ = false ∧ w'.cell? ⟨bt, 2, none⟩ = some (.bool false) ∧ w'.frozen? ⟨bt, 2, none⟩ = false ∧ w'.cell? ⟨bt, 3, none⟩ = some (.bool false) ∧ w'.frozen? ⟨bt, 3, none⟩ = false ∧ w'.cell? ⟨bt, 4, none⟩ = some (.bool false) ∧ w'.frozen? ⟨bt, 4, none⟩ = false ∧ w'.cell? ⟨bt, 5, none⟩ = some (.bool false) ∧ w'.frozen? ⟨bt, 5, none⟩ = false ∧ w'.cell? ⟨bt, 6, none⟩ = some (.bool false) ∧ w'.frozen? ⟨bt, 6, none⟩ = false ∧ w'.cell? ⟨bt, 7, none⟩ = some (.bool false) ∧ w'.frozen? ⟨bt, 7, none⟩ = false ∧ w'.cell? ⟨bt, 8, none⟩ = some (.bool false) ∧ w'.frozen? ⟨bt, 8, none⟩ = false ∧ w'.cell? ⟨bt, 9, none⟩ = some (.bool false) ∧ w'.frozen? ⟨bt, 9, none⟩ = false ∧ w.heap.size ≤ bt ∧ w.heap.size < bt ∧ bs < bt) (by kernel_rfl) (by kernel_rfl) (by kernel_rfl) (by kernel_rfl) (by kernel_rfl) ?_ (fun W w1 hSw hb => ⟨kc hb hSw.1, kc hb hSw.2.1, kc hb hSw.2.2.1, kc hb hSw.2.2.2.1, kc hb hSw.2.2.2.2.1, kc hb hSw.2.2.2.2.2.1, kc hb hSw.2.2.2.2.2.2.1, kc hb hSw.2.2.2.2.2.2.2.1, kc hb hSw.2.2.2.2.2.2.2.2.1, kc hb hSw.2.2.2.2.2.2.2.2.2.1, kc hb hSw.2.2.2.2.2.2.2.2.2.2.1, kc hb hSw.2.2.2.2.2.2.2.2.2.2.2.1, kb hSw.2.2.2.2.2.2.2.2.2.2.2.2 hb⟩) (fun bt W w1 hEw hb => ⟨kc hb hEw.1, kfz hb (klt hEw.1) hEw.2.1, kc hb hEw.2.2.1, kfz hb (klt hEw.2.2.1) hEw.2.2.2.1, kc hb hEw.2.2.2.2.1, kfz hb (klt hEw.2.2.2.2.1) hEw.2.2.2.2.2.1, kc hb hEw.2.2.2.2.2.2.1, kfz hb (klt hEw.2.2.2.2.2.2.1) hEw.2.2.2.2.2.2.2.1, kc hb hEw.2.2.2.2.2.2.2.2.1, kfz hb (klt hEw.2.2.2.2.2.2.2.2.1) hEw.2.2.2.2.2.2.2.2.2.1, kc hb hEw.2.2.2.2.2.2.2.2.2.2.1, kfz hb (klt hEw.2.2.2.2.2.2.2.2.2.2.1) hEw.2.2.2.2.2.2.2.2.2.2.2.1, kc hb hEw.2.2.2.2.2.2.2.2.2.2.2.2.1, kfz hb (klt hEw.2.2.2.2.2.2.2.2.2.2.2.2.1) hEw.2.2.2.2.2.2.2.2.2.2.2.2.2.1, kc hb hEw.2.2.2.2.2.2.2.2.2.2.2.2.2.2.1, kfz hb (klt hEw.2.2.2.2.2.2.2.2.2.2.2.2.2.2.1) hEw.2.2.2.2.2.2.2.2.2.2.2.2.2.2.2.1, kc hb hEw.2.2.2.2.2.2.2.2.2.2.2.2.2.2.2.2.1, kfz hb (klt hEw.2.2.2.2.2.2.2.2.2.2.2.2.2.2.2.2.1) hEw.2.2.2.2.2.2.2.2.2.2.2.2.2.2.2.2.2.1, kc hb hEw.2.2.2.2.2.2.2.2.2.2.2.2.2.2.2.2.2.2.1, kfz hb (klt hEw.2.2.2.2.2.2.2.2.2.2.2.2.2.2.2.2.2.2.1) hEw.2.2.2.2.2.2.2.2.2.2.2.2.2.2.2.2.2.2.2.1, hEw.2.2.2.2.2.2.2.2.2.2.2.2.2.2.2.2.2.2.2.2⟩) ?_ ?_ ?_
  · intro a W; show (execOp _ _).run _ _ = _; first | rfl | kernel_rfl
  · intro W hSw
    have hzW := (hSw.2.2.2.2.2.2.2.2.2.2.2.2).size
    have hkW0 := klt (hSw.1)
    have hkW2 := klt (hSw.2.2.1)
    refine ⟨?_, ?_, ?_, ?_, ?_, ?_, ?_, ?_, ?_, ?_, ?_, ?_, ?_, ?_, ?_, ?_, ?_, ?_, ?_, ?_, ?_, ?_, ?_⟩ <;> first | (go_simp; done) | omega | (dsimp only; omega)
  · (try dsimp only)
    refine ⟨?_, ?_, ?_, ?_, ?_, ?_, ?_, ?_, ?_, ?_, ?_, ?_, ?_⟩ <;> first | (go_simp; done) | (simp [*]; done) | go_grown
  (try simp only [List.append_eq, List.cons_append, List.nil_append, List.toList_toArray, List.take_succ_cons, List.take_zero, List.drop_succ_cons, List.drop_zero])
  repeat (first
    | (refine PlanA.skip (by decide) ?_)
    | (refine PlanA.val (v := ?_) (by decide) ?_ ?_ ?_; rotate_left; (· rfl); (· (intro W hSw; (try dsimp only at hSw); go_simp; all_goals (first | (with_reducible rfl) | (constructor <;> (with_reducible rfl))))); (try simp only [Act.put, List.setIfInBounds_toArray, List.set_cons_zero, List.set_cons_succ]))
    | (refine PlanA.no (by decide) ?_ ?_; (· rfl); (try simp only [Act.put, List.setIfInBounds_toArray, List.set_cons_zero, List.set_cons_succ]))
    | (refine PlanA.call (v := ?_) (f := ?_) (args := ?_) (by decide) ?_ ?_ ?_ ?_; rotate_left 3; (· rfl); (· (intro W hSw; (try dsimp only at hSw); go_simp; all_goals (first | (with_reducible rfl) | (constructor <;> (with_reducible rfl))))); (· (intro W hSw; (try dsimp only at hSw); first | (go_at_call 25; ((with_reducible refine (ofB_c (u8 x) x rfl _).mono ?_); rintro _ wz ⟨rfl, hb⟩; (refine ⟨?_, hb⟩; with_reducible rfl))) | (go_at_call 25; ((with_reducible refine (ofB_c (u8 y) y rfl _).mono ?_); rintro _ wz ⟨rfl, hb⟩; (refine ⟨?_, hb⟩; with_reducible rfl))) | (go_at_call 12; ((with_reducible refine (HT.out _).mono ?_); rintro _ wz ⟨rfl, hb⟩; (refine ⟨?_, hb⟩; with_reducible rfl))))); (try simp only [Act.put, List.setIfInBounds_toArray, List.set_cons_zero, List.set_cons_succ])))
  refine PlanA.done ?_
  intro bt w2 T E
  (try dsimp only at T E)
  (try simp only [Act.put, List.setIfInBounds_toArray, List.set_cons_zero, List.set_cons_succ])
  clear hci_0 hci_1 hs_0 fs_0 hs_1 fs_1 hs_2 fs_2 hs_3 fs_3 hs_4 fs_4 hs_5 fs_5 hs_6 fs_6 hs_7 fs_7 hs_8 fs_8 hs_9 fs_9 hB hsz hlci hls hnci0 hnci1 hkci1 hnci2 hkci2 hns0 hns1 hks1 hns2 hks2
  obtain ⟨hci_0, hci_1, hsv_0, hsv_1, hsv_2, hsv_3, hsv_4, hsv_5, hsv_6, hsv_7, hsv_8, hsv_9, hB⟩ := T
  obtain ⟨ht_0, ft_0, ht_1, ft_1, ht_2, ft_2, ht_3, ft_3, ht_4, ft_4, ht_5, ft_5, ht_6, ft_6, ht_7, ft_7, ht_8, ft_8, ht_9, ft_9, hg_bt, hq_bt_ci, hq_bt_sv⟩ := E
  have hr_bt_ci : ¬ w.heap.size = bt := by omega
  have hs_bt_ci : ¬ bt = w.heap.size := by omega
  have hr_bt_sv : ¬ bs = bt := by omega
  have hs_bt_sv : ¬ bt = bs := by omega
  have hsz := hB.size
  have hlci := klt hci_0
  have hlsv := klt hsv_0
  have hlt := klt ht_0
  have hnci0 : ¬ (w.heap.size = w2.heap.size) := by omega
  have hnci1 : ¬ (w.heap.size = w2.heap.size + 1) := by omega
  have hkci1 : w.heap.size < w2.heap.size + 1 := by omega
  have hnci2 : ¬ (w.heap.size = w2.heap.size + 1 + 1) := by omega
  have hkci2 : w.heap.size < w2.heap.size + 1 + 1 := by omega
  have hnsv0 : ¬ (bs = w2.heap.size) := by omega
  have hnsv1 : ¬ (bs = w2.heap.size + 1) := by omega
  have hksv1 : bs < w2.heap.size + 1 := by omega
  have hnsv2 : ¬ (bs = w2.heap.size + 1 + 1) := by omega
  have hksv2 : bs < w2.heap.size + 1 + 1 := by omega
  have hnt0 : ¬ (bt = w2.heap.size) := by omega
  have hnt1 : ¬ (bt = w2.heap.size + 1) := by omega
  have hkt1 : bt < w2.heap.size + 1 := by omega
  have hnt2 : ¬ (bt = w2.heap.size + 1 + 1) := by omega
  have hkt2 : bt < w2.heap.size + 1 + 1 := by omega
  go_wp2_with fail
  refine wp_region_planA 11 10 12 #[.int .u8 0, .int .u8 0, .bool false, .bool false, .bool false, .bool false, .bool false, .bool false, .bool false, .bool false] 30 (fun w' => w'.cell? ⟨bs, 0, none⟩ = some (B8 S) ∧ w'.cell? ⟨bs, 1, none⟩ = some (B8 0#8) ∧ w'.cell? ⟨bs, 2, none⟩ = some (.bool (decide (128 ≤ u8 S))) ∧ w'.cell? ⟨bs, 3, none⟩ = some (.bool false) ∧ w'.cell? ⟨bs, 4, none⟩ = some (.bool V) ∧ w'.cell? ⟨bs, 5, none⟩ = some (.bool false) ∧ w'.cell? ⟨bs, 6, none⟩ = some (.bool (S == 0#8)) ∧ w'.cell? ⟨bs, 7, none⟩ = some (.bool false) ∧ w'.cell? ⟨bs, 8, none⟩ = some (.bool false) ∧ w'.cell? ⟨bs, 9, none⟩ = some (.bool false) ∧ w'.cell? ⟨bt, 0, none⟩ = some (B8 S) ∧ w'.cell? ⟨bt, 1, none⟩ = some (B8 0#8) ∧ w'.cell? ⟨bt, 2, none⟩ = some (.bool (decide (128 ≤ u8 S))) ∧ w'.cell? ⟨bt, 3, none⟩ = some (.bool false) ∧ w'.cell? ⟨bt, 4, none⟩ = some (.bool V) ∧ w'.cell? ⟨bt, 5, none⟩ = some (.bool false) ∧ w'.cell? ⟨bt, 6, none⟩ = some (.bool (S == 0#8)) ∧ w'.cell? ⟨bt, 7, none⟩ = some (.bool false) ∧ w'.cell? ⟨bt, 8, none⟩ = some (.bool false) ∧ w'.cell? ⟨bt, 9, none⟩ = some (.bool false) ∧ Below w.heap.size w w') (fun bd w' => w'.cell? ⟨bd, 0, none⟩ = some (.int .u8 0) ∧ w'.frozen? ⟨bd, 0, none⟩ = false ∧ w'.cell? ⟨bd, 1, none⟩ = some (.int .u8 0) ∧ w'.frozen? ⟨bd, 1, none⟩ = false ∧ w'.cell? ⟨bd, 2, none⟩ = some (.bool false) ∧ w'.frozen? ⟨bd, 2, none⟩ = false ∧ w'.cell? ⟨bd, 3, none⟩ = some (.bool false) ∧ w'.frozen? ⟨bd, 3, none⟩ = false ∧ w'.cell? ⟨bd, 4, none⟩ = some (.bool false) ∧ w'.frozen? ⟨bd, 4, none⟩ = false ∧ w'.cell? ⟨bd, 5, none⟩ = some (.bool false) ∧ w'.frozen? ⟨bd, 5, none⟩ = false ∧ w'.cell? ⟨bd, 6, none⟩ = some (.bool false) ∧ w'.frozen? ⟨bd, 6, none⟩ = false ∧ w'.cell? ⟨bd, 7, none⟩ = some (.bool false) ∧ w'.frozen? ⟨bd, 7, none⟩ = false ∧ w'.cell? ⟨bd, 8, none⟩ = some (.bool false) ∧ w'.frozen? ⟨bd, 8, none⟩ = false ∧ w'.cell? ⟨bd, 9, none⟩ = some (.bool false) ∧ w'.frozen? ⟨bd, 9, none⟩ = false ∧ w.heap.size ≤ bd ∧ bs < bd ∧ bt < bd) (by kernel_rfl) (by kernel_rfl) (by kernel_rfl) (by kernel_rfl) (by kernel_rfl) ?_ (fun W w1 hSw hb => ⟨kc hb hSw.1, kc hb hSw.2.1, kc hb hSw.2.2.1, kc hb hSw.2.2.2.1, kc hb hSw.2.2.2.2.1, kc hb hSw.2.2.2.2.2.1, kc hb hSw.2.2.2.2.2.2.1, kc hb hSw.2.2.2.2.2.2.2.1, kc hb hSw.2.2.2.2.2.2.2.2.1, kc hb hSw.2.2.2.2.2.2.2.2.2.1, kc hb hSw.2.2.2.2.2.2.2.2.2.2.1, kc hb hSw.2.2.2.2.2.2.2.2.2.2.2.1, kc hb hSw.2.2.2.2.2.2.2.2.2.2.2.2.1, kc hb hSw.2.2.2.2.2.2.2.2.2.2.2.2.2.1, kc hb hSw.2.2.2.2.2.2.2.2.2.2.2.2.2.2.1, kc hb hSw.2.2.2.2.2.2.2.2.2.2.2.2.2.2.2.1, kc hb hSw.2.2.2.2.2.2.2.2.2.2.2.2.2.2.2.2.1, kc hb hSw.2.2.2.2.2.2.2.2.2.2.2.2.2.2.2.2.2.1, kc hb hSw.2.2.2.2.2.2.2.2.2.2.2.2.2.2.2.2.2.2.1, kc hb hSw.2.2.2.2.2.2.2.2.2.2.2.2.2.2.2.2.2.2.2.1, kb hSw.2.2.2.2.2.2.2.2.2.2.2.2.2.2.2.2.2.2.2.2 hb⟩) (fun bd W w1 hEw hb => ⟨kc hb hEw.1, kfz hb (klt hEw.1) hEw.2.1, kc hb hEw.2.2.1, kfz hb (klt hEw.2.2.1) hEw.2.2.2.1, kc hb hEw.2.2.2.2.1, kfz hb (klt hEw.2.2.2.2.1) hEw.2.2.2.2.2.1, kc hb hEw.2.2.2.2.2.2.1, kfz hb (klt hEw.2.2.2.2.2.2.1) hEw.2.2.2.2.2.2.2.1, kc hb hEw.2.2.2.2.2.2.2.2.1, kfz hb (klt hEw.2.2.2.2.2.2.2.2.1) hEw.2.2.2.2.2.2.2.2.2.1, kc hb hEw.2.2.2.2.2.2.2.2.2.2.1, kfz hb (klt hEw.2.2.2.2.2.2.2.2.2.2.1) hEw.2.2.2.2.2.2.2.2.2.2.2.1, kc hb hEw.2.2.2.2.2.2.2.2.2.2.2.2.1, kfz hb (klt hEw.2.2.2.2.2.2.2.2.2.2.2.2.1) hEw.2.2.2.2.2.2.2.2.2.2.2.2.2.1, kc hb hEw.2.2.2.2.2.2.2.2.2.2.2.2.2.2.1, kfz hb (klt hEw.2.2.2.2.2.2.2.2.2.2.2.2.2.2.1) hEw.2.2.2.2.2.2.2.2.2.2.2.2.2.2.2.1, kc hb hEw.2.2.2.2.2.2.2.2.2.2.2.2.2.2.2.2.1, kfz hb (klt hEw.2.2.2.2.2.2.2.2.2.2.2.2.2.2.2.2.1) hEw.2.2.2.2.2.2.2.2.2.2.2.2.2.2.2.2.2.1, kc hb hEw.2.2.2.2.2.2.2.2.2.2.2.2.2.2.2.2.2.2.1, kfz hb (klt hEw.2.2.2.2.2.2.2.2.2.2.2.2.2.2.2.2.2.2.1) hEw.2.2.2.2.2.2.2.2.2.2.2.2.2.2.2.2.2.2.2.1, hEw.2.2.2.2.2.2.2.2.2.2.2.2.2.2.2.2.2.2.2.2⟩) ?_ ?_ ?_
  · intro a W; show (execOp _ _).run _ _ = _; first | rfl | kernel_rfl
  · intro W hSw
    have hzW := (hSw.2.2.2.2.2.2.2.2.2.2.2.2.2.2.2.2.2.2.2.2).size
    have hkW0 := klt (hSw.1)
    have hkW10 := klt (hSw.2.2.2.2.2.2.2.2.2.2.1)
    refine ⟨?_, ?_, ?_, ?_, ?_, ?_, ?_, ?_, ?_, ?_, ?_, ?_, ?_, ?_, ?_, ?_, ?_, ?_, ?_, ?_, ?_, ?_, ?_⟩ <;> first | (go_simp; done) | omega | (dsimp only; omega)
  · (try dsimp only)
    refine ⟨?_, ?_, ?_, ?_, ?_, ?_, ?_, ?_, ?_, ?_, ?_, ?_, ?_, ?_, ?_, ?_, ?_, ?_, ?_, ?_, ?_⟩ <;> first | (go_simp; done) | (simp [*]; done) | go_grown
  (try simp only [List.append_eq, List.cons_append, List.nil_append, List.toList_toArray, List.take_succ_cons, List.take_zero, List.drop_succ_cons, List.drop_zero])
  repeat (first
    | (refine PlanA.skip (by decide) ?_)
    | (refine PlanA.val (v := ?_) (by decide) ?_ ?_ ?_; rotate_left; (· rfl); (· (intro W hSw; (try dsimp only at hSw); go_simp; all_goals (first | (with_reducible rfl) | (constructor <;> (with_reducible rfl))))); (try simp only [Act.put, List.setIfInBounds_toArray, List.set_cons_zero, List.set_cons_succ]))
    | (refine PlanA.no (by decide) ?_ ?_; (· rfl); (try simp only [Act.put, List.setIfInBounds_toArray, List.set_cons_zero, List.set_cons_succ]))
    | (refine PlanA.call (v := ?_) (f := ?_) (args := ?_) (by decide) ?_ ?_ ?_ ?_; rotate_left 3; (· rfl); (· (intro W hSw; (try dsimp only at hSw); go_simp; all_goals (first | (with_reducible rfl) | (constructor <;> (with_reducible rfl))))); (· (intro W hSw; (try dsimp only at hSw); first | (go_at_call 25; ((with_reducible refine (ofB_c (u8 y) y rfl _).mono ?_); rintro _ wz ⟨rfl, hb⟩; (refine ⟨?_, hb⟩; with_reducible rfl))) | (go_at_call 15; ((with_reducible refine (HD.out _).mono ?_); rintro _ wz ⟨rfl, hb⟩; (refine ⟨?_, hb⟩; with_reducible rfl))))); (try simp only [Act.put, List.setIfInBounds_toArray, List.set_cons_zero, List.set_cons_succ])))
  refine PlanA.done ?_
  intro bd w3 T E
  (try dsimp only at T E)
  (try simp only [Act.put, List.setIfInBounds_toArray, List.set_cons_zero, List.set_cons_succ])
  clear hci_0 hci_1 hsv_0 hsv_1 hsv_2 hsv_3 hsv_4 hsv_5 hsv_6 hsv_7 hsv_8 hsv_9 ht_0 ft_0 ht_1 ft_1 ht_2 ft_2 ht_3 ft_3 ht_4 ft_4 ht_5 ft_5 ht_6 ft_6 ht_7 ft_7 ht_8 ft_8 ht_9 ft_9 hB hsz hlci hlsv hlt hnci0 hnci1 hkci1 hnci2 hkci2 hnsv0 hnsv1 hksv1 hnsv2 hksv2 hnt0 hnt1 hkt1 hnt2 hkt2
  obtain ⟨hsv_0, hsv_1, hsv_2, hsv_3, hsv_4, hsv_5, hsv_6, hsv_7, hsv_8, hsv_9, htv_0, htv_1, htv_2, htv_3, htv_4, htv_5, htv_6, htv_7, htv_8, htv_9, hB⟩ := T
  obtain ⟨hd_0, fd_0, hd_1, fd_1, hd_2, fd_2, hd_3, fd_3, hd_4, fd_4, hd_5, fd_5, hd_6, fd_6, hd_7, fd_7, hd_8, fd_8, hd_9, fd_9, hg_bd, hq_bd_sv, hq_bd_tv⟩ := E
  have hr_bd_sv : ¬ bs = bd := by omega
  have hs_bd_sv : ¬ bd = bs := by omega
  have hr_bd_tv : ¬ bt = bd := by omega
  have hs_bd_tv : ¬ bd = bt := by omega
  have hsz := hB.size
  have hlsv := klt hsv_0
  have hltv := klt htv_0
  have hld := klt hd_0
  have hnsv0 : ¬ (bs = w3.heap.size) := by omega
  have hnsv1 : ¬ (bs = w3.heap.size + 1) := by omega
  have hksv1 : bs < w3.heap.size + 1 := by omega
  have hnsv2 : ¬ (bs = w3.heap.size + 1 + 1) := by omega
  have hksv2 : bs < w3.heap.size + 1 + 1 := by omega
  have hntv0 : ¬ (bt = w3.heap.size) := by omega
  have hntv1 : ¬ (bt = w3.heap.size + 1) := by omega
  have hktv1 : bt < w3.heap.size + 1 := by omega
  have hntv2 : ¬ (bt = w3.heap.size + 1 + 1) := by omega
  have hktv2 : bt < w3.heap.size + 1 + 1 := by omega
  have hnd0 : ¬ (bd = w3.heap.size) := by omega
  have hnd1 : ¬ (bd = w3.heap.size + 1) := by omega
  have hkd1 : bd < w3.heap.size + 1 := by omega
  have hnd2 : ¬ (bd = w3.heap.size + 1 + 1) := by omega
  have hkd2 : bd < w3.heap.size + 1 + 1 := by omega
  go_wp2_with fail
  refine wp_region_plan (fun w' => w'.cell? ⟨bs, 0, none⟩ = some (B8 S) ∧ w'.cell? ⟨bs, 1, none⟩ = some (B8 0#8) ∧ w'.cell? ⟨bs, 2, none⟩ = some (.bool (decide (128 ≤ u8 S))) ∧ w'.cell? ⟨bs, 3, none⟩ = some (.bool false) ∧ w'.cell? ⟨bs, 4, none⟩ = some (.bool V) ∧ w'.cell? ⟨bs, 5, none⟩ = some (.bool false) ∧ w'.cell? ⟨bs, 6, none⟩ = some (.bool (S == 0#8)) ∧ w'.cell? ⟨bs, 7, none⟩ = some (.bool false) ∧ w'.cell? ⟨bs, 8, none⟩ = some (.bool false) ∧ w'.cell? ⟨bs, 9, none⟩ = some (.bool false) ∧ w'.cell? ⟨bt, 0, none⟩ = some (B8 S) ∧ w'.cell? ⟨bt, 1, none⟩ = some (B8 0#8) ∧ w'.cell? ⟨bt, 2, none⟩ = some (.bool (decide (128 ≤ u8 S))) ∧ w'.cell? ⟨bt, 3, none⟩ = some (.bool false) ∧ w'.cell? ⟨bt, 4, none⟩ = some (.bool V) ∧ w'.cell? ⟨bt, 5, none⟩ = some (.bool false) ∧ w'.cell? ⟨bt, 6, none⟩ = some (.bool (S == 0#8)) ∧ w'.cell? ⟨bt, 7, none⟩ = some (.bool false) ∧ w'.cell? ⟨bt, 8, none⟩ = some (.bool false) ∧ w'.cell? ⟨bt, 9, none⟩ = some (.bool false) ∧ w'.cell? ⟨bd, 0, none⟩ = some (B8 x) ∧ w'.cell? ⟨bd, 1, none⟩ = some (B8 0#8) ∧ w'.cell? ⟨bd, 2, none⟩ = some (.bool n') ∧ w'.cell? ⟨bd, 3, none⟩ = some (.bool false) ∧ w'.cell? ⟨bd, 4, none⟩ = some (.bool v') ∧ w'.cell? ⟨bd, 5, none⟩ = some (.bool false) ∧ w'.cell? ⟨bd, 6, none⟩ = some (.bool z') ∧ w'.cell? ⟨bd, 7, none⟩ = some (.bool false) ∧ w'.cell? ⟨bd, 8, none⟩ = some (.bool c') ∧ w'.cell? ⟨bd, 9, none⟩ = some (.bool false) ∧ Below w.heap.size w w') (by kernel_rfl) (by kernel_rfl) (by kernel_rfl) ?_ ?_
  · (try dsimp only)
    refine ⟨?_, ?_, ?_, ?_, ?_, ?_, ?_, ?_, ?_, ?_, ?_, ?_, ?_, ?_, ?_, ?_, ?_, ?_, ?_, ?_, ?_, ?_, ?_, ?_, ?_, ?_, ?_, ?_, ?_, ?_, ?_⟩ <;> first | (go_simp; done) | (simp [*]; done) | go_grown
  repeat (first
    | (refine Plan.val (v := ?_) ?_ ?_ ?_; rotate_left; (· rfl); (· (intro W hSw; (try dsimp only at hSw); go_simp; all_goals (first | (with_reducible rfl) | (constructor <;> (with_reducible rfl))))); (try simp only [Act.put, List.setIfInBounds_toArray, List.set_cons_zero, List.set_cons_succ]))
    | (refine Plan.no ?_ ?_; (· rfl); (try simp only [Act.put, List.setIfInBounds_toArray, List.set_cons_zero, List.set_cons_succ]))
    | (refine Plan.call (v := ?_) (f := ?_) (args := ?_) ?_ ?_ ?_ ?_; rotate_left 3; (· rfl); (· (intro W hSw; (try dsimp only at hSw); go_simp; all_goals (first | (with_reducible rfl) | (constructor <;> (with_reducible rfl))))); (· (intro W hSw; (try dsimp only at hSw); first | (go_at_call 25; ((with_reducible refine (ofB_c (u8 x) x rfl _).mono ?_); rintro _ wz ⟨rfl, hb⟩; (refine ⟨?_, ?_⟩; (· with_reducible rfl); exact ⟨kc hb hSw.1, kc hb hSw.2.1, kc hb hSw.2.2.1, kc hb hSw.2.2.2.1, kc hb hSw.2.2.2.2.1, kc hb hSw.2.2.2.2.2.1, kc hb hSw.2.2.2.2.2.2.1, kc hb hSw.2.2.2.2.2.2.2.1, kc hb hSw.2.2.2.2.2.2.2.2.1, kc hb hSw.2.2.2.2.2.2.2.2.2.1, kc hb hSw.2.2.2.2.2.2.2.2.2.2.1, kc hb hSw.2.2.2.2.2.2.2.2.2.2.2.1, kc hb hSw.2.2.2.2.2.2.2.2.2.2.2.2.1, kc hb hSw.2.2.2.2.2.2.2.2.2.2.2.2.2.1, kc hb hSw.2.2.2.2.2.2.2.2.2.2.2.2.2.2.1, kc hb hSw.2.2.2.2.2.2.2.2.2.2.2.2.2.2.2.1, kc hb hSw.2.2.2.2.2.2.2.2.2.2.2.2.2.2.2.2.1, kc hb hSw.2.2.2.2.2.2.2.2.2.2.2.2.2.2.2.2.2.1, kc hb hSw.2.2.2.2.2.2.2.2.2.2.2.2.2.2.2.2.2.2.1, kc hb hSw.2.2.2.2.2.2.2.2.2.2.2.2.2.2.2.2.2.2.2.1, kc hb hSw.2.2.2.2.2.2.2.2.2.2.2.2.2.2.2.2.2.2.2.2.1, kc hb hSw.2.2.2.2.2.2.2.2.2.2.2.2.2.2.2.2.2.2.2.2.2.1, kc hb hSw.2.2.2.2.2.2.2.2.2.2.2.2.2.2.2.2.2.2.2.2.2.2.1, kc hb hSw.2.2.2.2.2.2.2.2.2.2.2.2.2.2.2.2.2.2.2.2.2.2.2.1, kc hb hSw.2.2.2.2.2.2.2.2.2.2.2.2.2.2.2.2.2.2.2.2.2.2.2.2.1, kc hb hSw.2.2.2.2.2.2.2.2.2.2.2.2.2.2.2.2.2.2.2.2.2.2.2.2.2.1, kc hb hSw.2.2.2.2.2.2.2.2.2.2.2.2.2.2.2.2.2.2.2.2.2.2.2.2.2.2.1, kc hb hSw.2.2.2.2.2.2.2.2.2.2.2.2.2.2.2.2.2.2.2.2.2.2.2.2.2.2.2.1, kc hb hSw.2.2.2.2.2.2.2.2.2.2.2.2.2.2.2.2.2.2.2.2.2.2.2.2.2.2.2.2.1, kc hb hSw.2.2.2.2.2.2.2.2.2.2.2.2.2.2.2.2.2.2.2.2.2.2.2.2.2.2.2.2.2.1, kb hSw.2.2.2.2.2.2.2.2.2.2.2.2.2.2.2.2.2.2.2.2.2.2.2.2.2.2.2.2.2.2 hb⟩))) | (go_at_call 14; ((with_reducible refine (awake_c _).mono ?_); rintro _ wz ⟨rfl, hb⟩; (refine ⟨?_, ?_⟩; (· with_reducible rfl); exact ⟨kc hb hSw.1, kc hb hSw.2.1, kc hb hSw.2.2.1, kc hb hSw.2.2.2.1, kc hb hSw.2.2.2.2.1, kc hb hSw.2.2.2.2.2.1, kc hb hSw.2.2.2.2.2.2.1, kc hb hSw.2.2.2.2.2.2.2.1, kc hb hSw.2.2.2.2.2.2.2.2.1, kc hb hSw.2.2.2.2.2.2.2.2.2.1, kc hb hSw.2.2.2.2.2.2.2.2.2.2.1, kc hb hSw.2.2.2.2.2.2.2.2.2.2.2.1, kc hb hSw.2.2.2.2.2.2.2.2.2.2.2.2.1, kc hb hSw.2.2.2.2.2.2.2.2.2.2.2.2.2.1, kc hb hSw.2.2.2.2.2.2.2.2.2.2.2.2.2.2.1, kc hb hSw.2.2.2.2.2.2.2.2.2.2.2.2.2.2.2.1, kc hb hSw.2.2.2.2.2.2.2.2.2.2.2.2.2.2.2.2.1, kc hb hSw.2.2.2.2.2.2.2.2.2.2.2.2.2.2.2.2.2.1, kc hb hSw.2.2.2.2.2.2.2.2.2.2.2.2.2.2.2.2.2.2.1, kc hb hSw.2.2.2.2.2.2.2.2.2.2.2.2.2.2.2.2.2.2.2.1, kc hb hSw.2.2.2.2.2.2.2.2.2.2.2.2.2.2.2.2.2.2.2.2.1, kc hb hSw.2.2.2.2.2.2.2.2.2.2.2.2.2.2.2.2.2.2.2.2.2.1, kc hb hSw.2.2.2.2.2.2.2.2.2.2.2.2.2.2.2.2.2.2.2.2.2.2.1, kc hb hSw.2.2.2.2.2.2.2.2.2.2.2.2.2.2.2.2.2.2.2.2.2.2.2.1, kc hb hSw.2.2.2.2.2.2.2.2.2.2.2.2.2.2.2.2.2.2.2.2.2.2.2.2.1, kc hb hSw.2.2.2.2.2.2.2.2.2.2.2.2.2.2.2.2.2.2.2.2.2.2.2.2.2.1, kc hb hSw.2.2.2.2.2.2.2.2.2.2.2.2.2.2.2.2.2.2.2.2.2.2.2.2.2.2.1, kc hb hSw.2.2.2.2.2.2.2.2.2.2.2.2.2.2.2.2.2.2.2.2.2.2.2.2.2.2.2.1, kc hb hSw.2.2.2.2.2.2.2.2.2.2.2.2.2.2.2.2.2.2.2.2.2.2.2.2.2.2.2.2.1, kc hb hSw.2.2.2.2.2.2.2.2.2.2.2.2.2.2.2.2.2.2.2.2.2.2.2.2.2.2.2.2.2.1, kb hSw.2.2.2.2.2.2.2.2.2.2.2.2.2.2.2.2.2.2.2.2.2.2.2.2.2.2.2.2.2.2 hb⟩))))); (try simp only [Act.put, List.setIfInBounds_toArray, List.set_cons_zero, List.set_cons_succ])))
  refine Plan.done ?_
  intro wz T
  (try dsimp only at T)
  have hBe := T.2.2.2.2.2.2.2.2.2.2.2.2.2.2.2.2.2.2.2.2.2.2.2.2.2.2.2.2.2.2
  go_wp2
  go_ret
  exact ⟨rfl, hBe⟩

set_option maxRecDepth 100000 in
set_option maxHeartbeats 8000000 in
theorem back_false_true (x y S : BitVec 8) (V n' v' z' c' : Bool)
    (hs : ∀ w, Calls Try.prog 12 #[TB x 0#8, TB y 0#8, TBit false false, TBit false false] w fun e w' => e = .returned (.agg #[B8 S, B8 0#8, .bool (decide (128 ≤ u8 S)), .bool false, .bool V, .bool false, .bool (S == 0#8), .bool false, .bool true, .bool false]) ∧ Below w.heap.size w w')
    (ht : ∀ w, Calls Try.prog 12 #[TB y 0#8, TB x 0#8, TBit false false, TBit false false] w fun e w' => e = .returned (.agg #[B8 S, B8 0#8, .bool (decide (128 ≤ u8 S)), .bool false, .bool V, .bool false, .bool (S == 0#8), .bool false, .bool true, .bool false]) ∧ Below w.heap.size w w')
    (hd : ∀ w, Calls Try.prog 15 #[TB S 0#8, TB y 0#8, TBit true false, TBit false false] w fun e w' => e = .returned (.agg #[B8 x, B8 0#8, .bool n', .bool false, .bool v', .bool false, .bool z', .bool false, .bool c', .bool false]) ∧ Below w.heap.size w w')
    (hN : u8 x + u8 y = u8 S + 256) (w : World) : Calls Try.prog 7 #[B8 x, B8 y, .bool false] w (LawEnd w) := by
  have x1 := u8_lo x
  have x2 := u8_hi x
  have y1 := u8_lo y
  have y2 := u8_hi y
  have s1 := u8_lo S
  have s2 := u8_hi S
  have k1 := u8_beq0
  have k2 := u8_beq
  have k3 := i64_u8b
  have HS := Lib.hid hs
  have HT := Lib.hid ht
  have HD := Lib.hid hd
  clear hs ht hd
  go_enter Try.func7, Try.ntmps7
  go_wp2_with fail
  refine wp_region_planA 10 9 8 #[.int .u8 0, .int .u8 0, .bool false, .bool false, .bool false, .bool false, .bool false, .bool false, .bool false, .bool false] 30 (fun w' => w'.cell? ⟨w.heap.size, 0, none⟩ = some (.bool false) ∧ w'.cell? ⟨w.heap.size, 1, none⟩ = some (.bool false) ∧ Below w.heap.size w w') (fun bs w' => w'.cell? ⟨bs, 0, none⟩ = some (.int .u8 0) ∧ w'.frozen? ⟨bs, 0, none⟩ = false ∧ w'.cell? ⟨bs, 1, none⟩ = some (.int .u8 0) ∧ w'.frozen? ⟨bs, 1, none⟩ = false ∧ w'.cell? ⟨bs, 2, none⟩ = some (.bool false) ∧ w'.frozen? ⟨bs, 2, none⟩ = false ∧ w'.cell? ⟨bs, 3, none⟩ = some (.bool false) ∧ w'.frozen? ⟨bs, 3, none⟩ = false ∧ w'.cell? ⟨bs, 4, none⟩ = some (.bool false) ∧ w'.frozen? ⟨bs, 4, none⟩ = false ∧ w'.cell? ⟨bs, 5, none⟩ = some (.bool false) ∧ w'.frozen? ⟨bs, 5, none⟩ = false ∧ w'.cell? ⟨bs, 6, none⟩ = some (.bool false) ∧ w'.frozen? ⟨bs, 6, none⟩ = false ∧ w'.cell? ⟨bs, 7, none⟩ = some (.bool false) ∧ w'.frozen? ⟨bs, 7, none⟩ = false ∧ w'.cell? ⟨bs, 8, none⟩ = some (.bool false) ∧ w'.frozen? ⟨bs, 8, none⟩ = false ∧ w'.cell? ⟨bs, 9, none⟩ = some (.bool false) ∧ w'.frozen? ⟨bs, 9, none⟩ = false ∧ w.heap.size ≤ bs ∧ w.heap.size < bs) (by kernel_rfl) (by kernel_rfl) (by kernel_rfl) (by kernel_rfl) (by kernel_rfl) ?_ (fun W w1 hSw hb => ⟨kc hb hSw.1, kc hb hSw.2.1, kb hSw.2.2 hb⟩) (fun bs W w1 hEw hb => ⟨kc hb hEw.1, kfz hb (klt hEw.1) hEw.2.1, kc hb hEw.2.2.1, kfz hb (klt hEw.2.2.1) hEw.2.2.2.1, kc hb hEw.2.2.2.2.1, kfz hb (klt hEw.2.2.2.2.1) hEw.2.2.2.2.2.1, kc hb hEw.2.2.2.2.2.2.1, kfz hb (klt hEw.2.2.2.2.2.2.1) hEw.2.2.2.2.2.2.2.1, kc hb hEw.2.2.2.2.2.2.2.2.1, kfz hb (klt hEw.2.2.2.2.2.2.2.2.1) hEw.2.2.2.2.2.2.2.2.2.1, kc hb hEw.2.2.2.2.2.2.2.2.2.2.1, kfz hb (klt hEw.2.2.2.2.2.2.2.2.2.2.1) hEw.2.2.2.2.2.2.2.2.2.2.2.1, kc hb hEw.2.2.2.2.2.2.2.2.2.2.2.2.1, kfz hb (klt hEw.2.2.2.2.2.2.2.2.2.2.2.2.1) hEw.2.2.2.2.2.2.2.2.2.2.2.2.2.1, kc hb hEw.2.2.2.2.2.2.2.2.2.2.2.2.2.2.1, kfz hb (klt hEw.2.2.2.2.2.2.2.2.2.2.2.2.2.2.1) hEw.2.2.2.2.2.2.2.2.2.2.2.2.2.2.2.1, kc hb hEw.2.2.2.2.2.2.2.2.2.2.2.2.2.2.2.2.1, kfz hb (klt hEw.2.2.2.2.2.2.2.2.2.2.2.2.2.2.2.2.1) hEw.2.2.2.2.2.2.2.2.2.2.2.2.2.2.2.2.2.1, kc hb hEw.2.2.2.2.2.2.2.2.2.2.2.2.2.2.2.2.2.2.1, kfz hb (klt hEw.2.2.2.2.2.2.2.2.2.2.2.2.2.2.2.2.2.2.1) hEw.2.2.2.2.2.2.2.2.2.2.2.2.2.2.2.2.2.2.2.1, hEw.2.2.2.2.2.2.2.2.2.2.2.2.2.2.2.2.2.2.2.2⟩) ?_ ?_ ?_
  · intro a W; show (execOp _ _).run _ _ = _; first | rfl | kernel_rfl
  · intro W hSw
    have hzW := (hSw.2.2).size
    have hkW0 := klt (hSw.1)
    refine ⟨?_, ?_, ?_, ?_, ?_, ?_, ?_, ?_, ?_, ?_, ?_, ?_, ?_, ?_, ?_, ?_, ?_, ?_, ?_, ?_, ?_, ?_⟩ <;> first | (go_simp; done) | omega | (dsimp only; omega)
  · (try dsimp only)
    refine ⟨?_, ?_, ?_⟩ <;> first | (go_simp; done) | (simp [*]; done) | go_grown
  (try simp only [List.append_eq, List.cons_append, List.nil_append, List.toList_toArray, List.take_succ_cons, List.take_zero, List.drop_succ_cons, List.drop_zero])
  repeat (first
    | (refine PlanA.skip (by decide) ?_)
    | (refine PlanA.val (v := ?_) (by decide) ?_ ?_ ?_; rotate_left; (· rfl); (· (intro W hSw; (try dsimp only at hSw); go_simp; all_goals (first | (with_reducible rfl) | (constructor <;> (with_reducible rfl))))); (try simp only [Act.put, List.setIfInBounds_toArray, List.set_cons_zero, List.set_cons_succ]))
    | (refine PlanA.no (by decide) ?_ ?_; (· rfl); (try simp only [Act.put, List.setIfInBounds_toArray, List.set_cons_zero, List.set_cons_succ]))
    | (refine PlanA.call (v := ?_) (f := ?_) (args := ?_) (by decide) ?_ ?_ ?_ ?_; rotate_left 3; (· rfl); (· (intro W hSw; (try dsimp only at hSw); go_simp; all_goals (first | (with_reducible rfl) | (constructor <;> (with_reducible rfl))))); (· (intro W hSw; (try dsimp only at hSw); first | (go_at_call 25; ((with_reducible refine (ofB_c (u8 x) x rfl _).mono ?_); rintro _ wz ⟨rfl, hb⟩; (refine ⟨?_, hb⟩; with_reducible rfl))) | (go_at_call 25; ((with_reducible refine (ofB_c (u8 y) y rfl _).mono ?_); rintro _ wz ⟨rfl, hb⟩; (refine ⟨?_, hb⟩; with_reducible rfl))) | (go_at_call 12; ((with_reducible refine (HS.out _).mono ?_); rintro _ wz ⟨rfl, hb⟩; (refine ⟨?_, hb⟩; with_reducible rfl))))); (try simp only [Act.put, List.setIfInBounds_toArray, List.set_cons_zero, List.set_cons_succ])))
  refine PlanA.done ?_
  intro bs w1 T E
  (try dsimp only at T E)
  (try simp only [Act.put, List.setIfInBounds_toArray, List.set_cons_zero, List.set_cons_succ])
  obtain ⟨hci_0, hci_1, hB⟩ := T
  obtain ⟨hs_0, fs_0, hs_1, fs_1, hs_2, fs_2, hs_3, fs_3, hs_4, fs_4, hs_5, fs_5, hs_6, fs_6, hs_7, fs_7, hs_8, fs_8, hs_9, fs_9, hg_bs, hq_bs_ci⟩ := E
  have hr_bs_ci : ¬ w.heap.size = bs := by omega
  have hs_bs_ci : ¬ bs = w.heap.size := by omega
  have hsz := hB.size
  have hlci := klt hci_0
  have hls := klt hs_0
  have hnci0 : ¬ (w.heap.size = w1.heap.size) := by omega
  have hnci1 : ¬ (w.heap.size = w1.heap.size + 1) := by omega
  have hkci1 : w.heap.size < w1.heap.size + 1 := by omega
  have hnci2 : ¬ (w.heap.size = w1.heap.size + 1 + 1) := by omega
  have hkci2 : w.heap.size < w1.heap.size + 1 + 1 := by omega
  have hns0 : ¬ (bs = w1.heap.size) := by omega
  have hns1 : ¬ (bs = w1.heap.size + 1) := by omega
  have hks1 : bs < w1.heap.size + 1 := by omega
  have hns2 : ¬ (bs = w1.heap.size + 1 + 1) := by omega
  have hks2 : bs < w1.heap.size + 1 + 1 := by omega
  go_wp2_with fail
  refine wp_region_planA 10 9 9 #[.int .u8 0, .int .u8 0, .bool false, .bool false, .bool false, .bool false, .bool false, .bool false, .bool false, .bool false] 30 (fun w' => w'.cell? ⟨w.heap.size, 0, none⟩ = some (.bool false) ∧ w'.cell? ⟨w.heap.size, 1, none⟩ = some (.bool false) ∧ w'.cell? ⟨bs, 0, none⟩ = some (B8 S) ∧ w'.cell? ⟨bs, 1, none⟩ = some (B8 0#8) ∧ w'.cell? ⟨bs, 2, none⟩ = some (.bool (decide (128 ≤ u8 S))) ∧ w'.cell? ⟨bs, 3, none⟩ = some (.bool false) ∧ w'.cell? ⟨bs, 4, none⟩ = some (.bool V) ∧ w'.cell? ⟨bs, 5, none⟩ = some (.bool false) ∧ w'.cell? ⟨bs, 6, none⟩ = some (.bool (S == 0#8)) ∧ w'.cell? ⟨bs, 7, none⟩ = some (.bool false) ∧ w'.cell? ⟨bs, 8, none⟩ = some (.bool true) ∧ w'.cell? ⟨bs, 9, none⟩ = some (.bool false) ∧ Below w.heap.size w w') (fun bt w' => w'.cell? ⟨bt, 0, none⟩ = some (.int .u8 0) ∧ w'.frozen? ⟨bt, 0, none⟩ = false ∧ w'.cell? ⟨bt, 1, none⟩ = some (.int .u8 0) ∧ w'.frozen? ⟨bt, 1, none⟩ = false ∧ w'.cell? ⟨bt, 2, none⟩ = some (.bool false) ∧ w'.frozen? ⟨bt, 2, none⟩ = false ∧ w'.cell? ⟨bt, 3, none⟩ = some (.bool false) ∧ w'.frozen? ⟨bt, 3, none⟩ = false ∧ w'.cell? ⟨bt, 4, none⟩ = some (.bool false) ∧ w'.frozen? ⟨bt, 4, none⟩ = false ∧ w'.cell? ⟨bt, 5, none⟩ = some (.bool false) ∧ w'.frozen? ⟨bt, 5, none⟩ = false ∧ w'.cell? ⟨bt, 6, none⟩ = some (.bool false) ∧ w'.frozen? ⟨bt, 6, none⟩ = false ∧ w'.cell? ⟨bt, 7, none⟩ = some (.bool false) ∧ w'.frozen? ⟨bt, 7, none⟩ = false ∧ w'.cell? ⟨bt, 8, none⟩ = some (.bool false) ∧ w'.frozen? ⟨bt, 8, none⟩ = false ∧ w'.cell? ⟨bt, 9, none⟩ = some (.bool false) ∧ w'.frozen? ⟨bt, 9, none⟩ = false ∧ w.heap.size ≤ bt ∧ w.heap.size < bt ∧ bs < bt) (by kernel_rfl) (by kernel_rfl) (by kernel_rfl) (by kernel_rfl) (by kernel_rfl) ?_ (fun W w1 hSw hb => ⟨kc hb hSw.1, kc hb hSw.2.1, kc hb hSw.2.2.1, kc hb hSw.2.2.2.1, kc hb hSw.2.2.2.2.1, kc hb hSw.2.2.2.2.2.1, kc hb hSw.2.2.2.2.2.2.1, kc hb hSw.2.2.2.2.2.2.2.1, kc hb hSw.2.2.2.2.2.2.2.2.1, kc hb hSw.2.2.2.2.2.2.2.2.2.1, kc hb hSw.2.2.2.2.2.2.2.2.2.2.1, kc hb hSw.2.2.2.2.2.2.2.2.2.2.2.1, kb hSw.2.2.2.2.2.2.2.2.2.2.2.2 hb⟩) (fun bt W w1 hEw hb => ⟨kc hb hEw.1, kfz hb (klt hEw.1) hEw.2.1, kc hb hEw.2.2.1, kfz hb (klt hEw.2.2.1) hEw.2.2.2.1, kc hb hEw.2.2.2.2.1, kfz hb (klt hEw.2.2.2.2.1) hEw.2.2.2.2.2.1, kc hb hEw.2.2.2.2.2.2.1, kfz hb (klt hEw.2.2.2.2.2.2.1) hEw.2.2.2.2.2.2.2.1, kc hb hEw.2.2.2.2.2.2.2.2.1, kfz hb (klt hEw.2.2.2.2.2.2.2.2.1) hEw.2.2.2.2.2.2.2.2.2.1, kc hb hEw.2.2.2.2.2.2.2.2.2.2.1, kfz hb (klt hEw.2.2.2.2.2.2.2.2.2.2.1) hEw.2.2.2.2.2.2.2.2.2.2.2.1, kc hb hEw.2.2.2.2.2.2.2.2.2.2.2.2.1, kfz hb (klt hEw.2.2.2.2.2.2.2.2.2.2.2.2.1) hEw.2.2.2.2.2.2.2.2.2.2.2.2.2.1, kc hb hEw.2.2.2.2.2.2.2.2.2.2.2.2.2.2.1, kfz hb (klt hEw.2.2.2.2.2.2.2.2.2.2.2.2.2.2.1) hEw.2.2.2.2.2.2.2.2.2.2.2.2.2.2.2.1, kc hb hEw.2.2.2.2.2.2.2.2.2.2.2.2.2.2.2.2.1, kfz hb (klt hEw.2.2.2.2.2.2.2.2.2.2.2.2.2.2.2.2.1) hEw.2.2.2.2.2.2.2.2.2.2.2.2.2.2.2.2.2.1, kc hb hEw.2.2.2.2.2.2.2.2.2.2.2.2.2.2.2.2.2.2.1, kfz hb (klt hEw.2.2.2.2.2.2.2.2.2.2.2.2.2.2.2.2.2.2.1) hEw.2.2.2.2.2.2.2.2.2.2.2.2.2.2.2.2.2.2.2.1, hEw.2.2.2.2.2.2.2.2.2.2.2.2.2.2.2.2.2.2.2.2⟩) ?_ ?_ ?_
  · intro a W; show (execOp _ _).run _ _ = _; first | rfl | kernel_rfl
  · intro W hSw
    have hzW := (hSw.2.2.2.2.2.2.2.2.2.2.2.2).size
    have hkW0 := klt (hSw.1)
    have hkW2 := klt (hSw.2.2.1)
    refine ⟨?_, ?_, ?_, ?_, ?_, ?_, ?_, ?_, ?_, ?_, ?_, ?_, ?_, ?_, ?_, ?_, ?_, ?_, ?_, ?_, ?_, ?_, ?_⟩ <;> first | (go_simp; done) | omega | (dsimp only; omega)
  · (try dsimp only)
    refine ⟨?_, ?_, ?_, ?_, ?_, ?_, ?_, ?_, ?_, ?_, ?_, ?_, ?_⟩ <;> first | (go_simp; done) | (simp [*]; done) | go_grown
  (try simp only [List.append_eq, List.cons_append, List.nil_append, List.toList_toArray, List.take_succ_cons, List.take_zero, List.drop_succ_cons, List.drop_zero])
  repeat (first
    | (refine PlanA.skip (by decide) ?_)
    | (refine PlanA.val (v := ?_) (by decide) ?_ ?_ ?_; rotate_left; (· rfl); (· (intro W hSw; (try dsimp only at hSw); go_simp; all_goals (first | (with_reducible rfl) | (constructor <;> (with_reducible rfl))))); (try simp only [Act.put, List.setIfInBounds_toArray, List.set_cons_zero, List.set_cons_succ]))
    | (refine PlanA.no (by decide) ?_ ?_; (· rfl); (try simp only [Act.put, List.setIfInBounds_toArray, List.set_cons_zero, List.set_cons_succ]))
    | (refine PlanA.call (v := ?_) (f := ?_) (args := ?_) (by decide) ?_ ?_ ?_ ?_; rotate_left 3; (· rfl); (· (intro W hSw; (try dsimp only at hSw); go_simp; all_goals (first | (with_reducible rfl) | (constructor <;> (with_reducible rfl))))); (· (intro W hSw; (try dsimp only at hSw); first | (go_at_call 25; ((with_reducible refine (ofB_c (u8 x) x rfl _).mono ?_); rintro _ wz ⟨rfl, hb⟩; (refine ⟨?_, hb⟩; with_reducible rfl))) | (go_at_call 25; ((with_reducible refine (ofB_c (u8 y) y rfl _).mono ?_); rintro _ wz ⟨rfl, hb⟩; (refine ⟨?_, hb⟩; with_reducible rfl))) | (go_at_call 12; ((with_reducible refine (HT.out _).mono ?_); rintro _ wz ⟨rfl, hb⟩; (refine ⟨?_, hb⟩; with_reducible rfl))))); (try simp only [Act.put, List.setIfInBounds_toArray, List.set_cons_zero, List.set_cons_succ])))
  refine PlanA.done ?_
  intro bt w2 T E
  (try dsimp only at T E)
  (try simp only [Act.put, List.setIfInBounds_toArray, List.set_cons_zero, List.set_cons_succ])
  clear hci_0 hci_1 hs_0 fs_0 hs_1 fs_1 hs_2 fs_2 hs_3 fs_3 hs_4 fs_4 hs_5 fs_5 hs_6 fs_6 hs_7 fs_7 hs_8 fs_8 hs_9 fs_9 hB hsz hlci hls hnci0 hnci1 hkci1 hnci2 hkci2 hns0 hns1 hks1 hns2 hks2
  obtain ⟨hci_0, hci_1, hsv_0, hsv_1, hsv_2, hsv_3, hsv_4, hsv_5, hsv_6, hsv_7, hsv_8, hsv_9, hB⟩ := T
  obtain ⟨ht_0, ft_0, ht_1, ft_1, ht_2, ft_2, ht_3, ft_3, ht_4, ft_4, ht_5, ft_5, ht_6, ft_6, ht_7, ft_7, ht_8, ft_8, ht_9, ft_9, hg_bt, hq_bt_ci, hq_bt_sv⟩ := E
  have hr_bt_ci : ¬ w.heap.size = bt := by omega
  have hs_bt_ci : ¬ bt = w.heap.size := by omega
  have hr_bt_sv : ¬ bs = bt := by omega
  have hs_bt_sv : ¬ bt = bs := by omega
  have hsz := hB.size
  have hlci := klt hci_0
  have hlsv := klt hsv_0
  have hlt := klt ht_0
  have hnci0 : ¬ (w.heap.size = w2.heap.size) := by omega
  have hnci1 : ¬ (w.heap.size = w2.heap.size + 1) := by omega
  have hkci1 : w.heap.size < w2.heap.size + 1 := by omega
  have hnci2 : ¬ (w.heap.size = w2.heap.size + 1 + 1) := by omega
  have hkci2 : w.heap.size < w2.heap.size + 1 + 1 := by omega
  have hnsv0 : ¬ (bs = w2.heap.size) := by omega
  have hnsv1 : ¬ (bs = w2.heap.size + 1) := by omega
  have hksv1 : bs < w2.heap.size + 1 := by omega
  have hnsv2 : ¬ (bs = w2.heap.size + 1 + 1) := by omega
  have hksv2 : bs < w2.heap.size + 1 + 1 := by omega
  have hnt0 : ¬ (bt = w2.heap.size) := by omega
  have hnt1 : ¬ (bt = w2.heap.size + 1) := by omega
  have hkt1 : bt < w2.heap.size + 1 := by omega
  have hnt2 : ¬ (bt = w2.heap.size + 1 + 1) := by omega
  have hkt2 : bt < w2.heap.size + 1 + 1 := by omega
  go_wp2_with fail
  refine wp_region_planA 11 10 12 #[.int .u8 0, .int .u8 0, .bool false, .bool false, .bool false, .bool false, .bool false, .bool false, .bool false, .bool false] 30 (fun w' => w'.cell? ⟨bs, 0, none⟩ = some (B8 S) ∧ w'.cell? ⟨bs, 1, none⟩ = some (B8 0#8) ∧ w'.cell? ⟨bs, 2, none⟩ = some (.bool (decide (128 ≤ u8 S))) ∧ w'.cell? ⟨bs, 3, none⟩ = some (.bool false) ∧ w'.cell? ⟨bs, 4, none⟩ = some (.bool V) ∧ w'.cell? ⟨bs, 5, none⟩ = some (.bool false) ∧ w'.cell? ⟨bs, 6, none⟩ = some (.bool (S == 0#8)) ∧ w'.cell? ⟨bs, 7, none⟩ = some (.bool false) ∧ w'.cell? ⟨bs, 8, none⟩ = some (.bool true) ∧ w'.cell? ⟨bs, 9, none⟩ = some (.bool false) ∧ w'.cell? ⟨bt, 0, none⟩ = some (B8 S) ∧ w'.cell? ⟨bt, 1, none⟩ = some (B8 0#8) ∧ w'.cell? ⟨bt, 2, none⟩ = some (.bool (decide (128 ≤ u8 S))) ∧ w'.cell? ⟨bt, 3, none⟩ = some (.bool false) ∧ w'.cell? ⟨bt, 4, none⟩ = some (.bool V) ∧ w'.cell? ⟨bt, 5, none⟩ = some (.bool false) ∧ w'.cell? ⟨bt, 6, none⟩ = some (.bool (S == 0#8)) ∧ w'.cell? ⟨bt, 7, none⟩ = some (.bool false) ∧ w'.cell? ⟨bt, 8, none⟩ = some (.bool true) ∧ w'.cell? ⟨bt, 9, none⟩ = some (.bool false) ∧ Below w.heap.size w w') (fun bd w' => w'.cell? ⟨bd, 0, none⟩ = some (.int .u8 0) ∧ w'.frozen? ⟨bd, 0, none⟩ = false ∧ w'.cell? ⟨bd, 1, none⟩ = some (.int .u8 0) ∧ w'.frozen? ⟨bd, 1, none⟩ = false ∧ w'.cell? ⟨bd, 2, none⟩ = some (.bool false) ∧ w'.frozen? ⟨bd, 2, none⟩ = false ∧ w'.cell? ⟨bd, 3, none⟩ = some (.bool false) ∧ w'.frozen? ⟨bd, 3, none⟩ = false ∧ w'.cell? ⟨bd, 4, none⟩ = some (.bool false) ∧ w'.frozen? ⟨bd, 4, none⟩ = false ∧ w'.cell? ⟨bd, 5, none⟩ = some (.bool false) ∧ w'.frozen? ⟨bd, 5, none⟩ = false ∧ w'.cell? ⟨bd, 6, none⟩ = some (.bool false) ∧ w'.frozen? ⟨bd, 6, none⟩ = false ∧ w'.cell? ⟨bd, 7, none⟩ = some (.bool false) ∧ w'.frozen? ⟨bd, 7, none⟩ = false ∧ w'.cell? ⟨bd, 8, none⟩ = some (.bool false) ∧ w'.frozen? ⟨bd, 8, none⟩ = false ∧ w'.cell? ⟨bd, 9, none⟩ = some (.bool false) ∧ w'.frozen? ⟨bd, 9, none⟩ = false ∧ w.heap.size ≤ bd ∧ bs < bd ∧ bt < bd) (by kernel_rfl) (by kernel_rfl) (by kernel_rfl) (by kernel_rfl) (by kernel_rfl) ?_ (fun W w1 hSw hb => ⟨kc hb hSw.1, kc hb hSw.2.1, kc hb hSw.2.2.1, kc hb hSw.2.2.2.1, kc hb hSw.2.2.2.2.1, kc hb hSw.2.2.2.2.2.1, kc hb hSw.2.2.2.2.2.2.1, kc hb hSw.2.2.2.2.2.2.2.1, kc hb hSw.2.2.2.2.2.2.2.2.1, kc hb hSw.2.2.2.2.2.2.2.2.2.1, kc hb hSw.2.2.2.2.2.2.2.2.2.2.1, kc hb hSw.2.2.2.2.2.2.2.2.2.2.2.1, kc hb hSw.2.2.2.2.2.2.2.2.2.2.2.2.1, kc hb hSw.2.2.2.2.2.2.2.2.2.2.2.2.2.1, kc hb hSw.2.2.2.2.2.2.2.2.2.2.2.2.2.2.1, kc hb hSw.2.2.2.2.2.2.2.2.2.2.2.2.2.2.2.1, kc hb hSw.2.2.2.2.2.2.2.2.2.2.2.2.2.2.2.2.1, kc hb hSw.2.2.2.2.2.2.2.2.2.2.2.2.2.2.2.2.2.1, kc hb hSw.2.2.2.2.2.2.2.2.2.2.2.2.2.2.2.2.2.2.1, kc hb hSw.2.2.2.2.2.2.2.2.2.2.2.2.2.2.2.2.2.2.2.1, kb hSw.2.2.2.2.2.2.2.2.2.2.2.2.2.2.2.2.2.2.2.2 hb⟩) (fun bd W w1 hEw hb => ⟨kc hb hEw.1, kfz hb (klt hEw.1) hEw.2.1, kc hb hEw.2.2.1, kfz hb (klt hEw.2.2.1) hEw.2.2.2.1, kc hb hEw.2.2.2.2.1, kfz hb (klt hEw.2.2.2.2.1) hEw.2.2.2.2.2.1, kc hb hEw.2.2.2.2.2.2.1, kfz hb (klt hEw.2.2.2.2.2.2.1) hEw.2.2.2.2.2.2.2.1, kc hb hEw.2.2.2.2.2.2.2.2.1, kfz hb (klt hEw.2.2.2.2.2.2.2.2.1) hEw.2.2.2.2.2.2.2.2.2.1, kc hb hEw.2.2.2.2.2.2.2.2.2.2.1, kfz hb (klt hEw.2.2.2.2.2.2.2.2.2.2.1) hEw.2.2.2.2.2.2.2.2.2.2.2.1, kc hb hEw.2.2.2.2.2.2.2.2.2.2.2.2.1, kfz hb (klt hEw.2.2.2.2.2.2.2.2.2.2.2.2.1) hEw.2.2.2.2.2.2.2.2.2.2.2.2.2.1, kc hb hEw.2.2.2.2.2.2.2.2.2.2.2.2.2.2.1, kfz hb (klt hEw.2.2.2.2.2.2.2.2.2.2.2.2.2.2.1) hEw.2.2.2.2.2.2.2.2.2.2.2.2.2.2.2.1, kc hb hEw.2.2.2.2.2.2.2.2.2.2.2.2.2.2.2.2.1, kfz hb (klt hEw.2.2.2.2.2.2.2.2.2.2.2.2.2.2.2.2.1) hEw.2.2.2.2.2.2.2.2.2.2.2.2.2.2.2.2.2.1, kc hb hEw.2.2.2.2.2.2.2.2.2.2.2.2.2.2.2.2.2.2.1, kfz hb (klt hEw.2.2.2.2.2.2.2.2.2.2.2.2.2.2.2.2.2.2.1) hEw.2.2.2.2.2.2.2.2.2.2.2.2.2.2.2.2.2.2.2.1, hEw.2.2.2.2.2.2.2.2.2.2.2.2.2.2.2.2.2.2.2.2⟩) ?_ ?_ ?_
  · intro a W; show (execOp _ _).run _ _ = _; first | rfl | kernel_rfl
  · intro W hSw
    have hzW := (hSw.2.2.2.2.2.2.2.2.2.2.2.2.2.2.2.2.2.2.2.2).size
    have hkW0 := klt (hSw.1)
    have hkW10 := klt (hSw.2.2.2.2.2.2.2.2.2.2.1)
    refine ⟨?_, ?_, ?_, ?_, ?_, ?_, ?_, ?_, ?_, ?_, ?_, ?_, ?_, ?_, ?_, ?_, ?_, ?_, ?_, ?_, ?_, ?_, ?_⟩ <;> first | (go_simp; done) | omega | (dsimp only; omega)
  · (try dsimp only)
    refine ⟨?_, ?_, ?_, ?_, ?_, ?_, ?_, ?_, ?_, ?_, ?_, ?_, ?_, ?_, ?_, ?_, ?_, ?_, ?_, ?_, ?_⟩ <;> first | (go_simp; done) | (simp [*]; done) | go_grown
  (try simp only [List.append_eq, List.cons_append, List.nil_append, List.toList_toArray, List.take_succ_cons, List.take_zero, List.drop_succ_cons, List.drop_zero])
  repeat (first
    | (refine PlanA.skip (by decide) ?_)
    | (refine PlanA.val (v := ?_) (by decide) ?_ ?_ ?_; rotate_left; (· rfl); (· (intro W hSw; (try dsimp only at hSw); go_simp; all_goals (first | (with_reducible rfl) | (constructor <;> (with_reducible rfl))))); (try simp only [Act.put, List.setIfInBounds_toArray, List.set_cons_zero, List.set_cons_succ]))
    | (refine PlanA.no (by decide) ?_ ?_; (· rfl); (try simp only [Act.put, List.setIfInBounds_toArray, List.set_cons_zero, List.set_cons_succ]))
    | (refine PlanA.call (v := ?_) (f := ?_) (args := ?_) (by decide) ?_ ?_ ?_ ?_; rotate_left 3; (· rfl); (· (intro W hSw; (try dsimp only at hSw); go_simp; all_goals (first | (with_reducible rfl) | (constructor <;> (with_reducible rfl))))); (· (intro W hSw; (try dsimp only at hSw); first | (go_at_call 25; ((with_reducible refine (ofB_c (u8 y) y rfl _).mono ?_); rintro _ wz ⟨rfl, hb⟩; (refine ⟨?_, hb⟩; with_reducible rfl))) | (go_at_call 15; ((with_reducible refine (HD.out _).mono ?_); rintro _ wz ⟨rfl, hb⟩; (refine ⟨?_, hb⟩; with_reducible rfl))))); (try simp only [Act.put, List.setIfInBounds_toArray, List.set_cons_zero, List.set_cons_succ])))
  refine PlanA.done ?_
  intro bd w3 T E
  (try dsimp only at T E)
  (try simp only [Act.put, List.setIfInBounds_toArray, List.set_cons_zero, List.set_cons_succ])
  clear hci_0 hci_1 hsv_0 hsv_1 hsv_2 hsv_3 hsv_4 hsv_5 hsv_6 hsv_7 hsv_8 hsv_9 ht_0 ft_0 ht_1 ft_1 ht_2 ft_2 ht_3 ft_3 ht_4 ft_4 ht_5 ft_5 ht_6 ft_6 ht_7 ft_7 ht_8 ft_8 ht_9 ft_9 hB hsz hlci hlsv hlt hnci0 hnci1 hkci1 hnci2 hkci2 hnsv0 hnsv1 hksv1 hnsv2 hksv2 hnt0 hnt1 hkt1 hnt2 hkt2
  obtain ⟨hsv_0, hsv_1, hsv_2, hsv_3, hsv_4, hsv_5, hsv_6, hsv_7, hsv_8, hsv_9, htv_0, htv_1, htv_2, htv_3, htv_4, htv_5, htv_6, htv_7, htv_8, htv_9, hB⟩ := T
  obtain ⟨hd_0, fd_0, hd_1, fd_1, hd_2, fd_2, hd_3, fd_3, hd_4, fd_4, hd_5, fd_5, hd_6, fd_6, hd_7, fd_7, hd_8, fd_8, hd_9, fd_9, hg_bd, hq_bd_sv, hq_bd_tv⟩ := E
  have hr_bd_sv : ¬ bs = bd := by omega
  have hs_bd_sv : ¬ bd = bs := by omega
  have hr_bd_tv : ¬ bt = bd := by omega
  have hs_bd_tv : ¬ bd = bt := by omega
  have hsz := hB.size
  have hlsv := klt hsv_0
  have hltv := klt htv_0
  have hld := klt hd_0
  have hnsv0 : ¬ (bs = w3.heap.size) := by omega
  have hnsv1 : ¬ (bs = w3.heap.size + 1) := by omega
  have hksv1 : bs < w3.heap.size + 1 := by omega
  have hnsv2 : ¬ (bs = w3.heap.size + 1 + 1) := by omega
  have hksv2 : bs < w3.heap.size + 1 + 1 := by omega
  have hntv0 : ¬ (bt = w3.heap.size) := by omega
  have hntv1 : ¬ (bt = w3.heap.size + 1) := by omega
  have hktv1 : bt < w3.heap.size + 1 := by omega
  have hntv2 : ¬ (bt = w3.heap.size + 1 + 1) := by omega
  have hktv2 : bt < w3.heap.size + 1 + 1 := by omega
  have hnd0 : ¬ (bd = w3.heap.size) := by omega
  have hnd1 : ¬ (bd = w3.heap.size + 1) := by omega
  have hkd1 : bd < w3.heap.size + 1 := by omega
  have hnd2 : ¬ (bd = w3.heap.size + 1 + 1) := by omega
  have hkd2 : bd < w3.heap.size + 1 + 1 := by omega
  go_wp2_with fail
  refine wp_region_plan (fun w' => w'.cell? ⟨bs, 0, none⟩ = some (B8 S) ∧ w'.cell? ⟨bs, 1, none⟩ = some (B8 0#8) ∧ w'.cell? ⟨bs, 2, none⟩ = some (.bool (decide (128 ≤ u8 S))) ∧ w'.cell? ⟨bs, 3, none⟩ = some (.bool false) ∧ w'.cell? ⟨bs, 4, none⟩ = some (.bool V) ∧ w'.cell? ⟨bs, 5, none⟩ = some (.bool false) ∧ w'.cell? ⟨bs, 6, none⟩ = some (.bool (S == 0#8)) ∧ w'.cell? ⟨bs, 7, none⟩ = some (.bool false) ∧ w'.cell? ⟨bs, 8, none⟩ = some (.bool true) ∧ w'.cell? ⟨bs, 9, none⟩ = some (.bool false) ∧ w'.cell? ⟨bt, 0, none⟩ = some (B8 S) ∧ w'.cell? ⟨bt, 1, none⟩ = some (B8 0#8) ∧ w'.cell? ⟨bt, 2, none⟩ = some (.bool (decide (128 ≤ u8 S))) ∧ w'.cell? ⟨bt, 3, none⟩ = some (.bool false) ∧ w'.cell? ⟨bt, 4, none⟩ = some (.bool V) ∧ w'.cell? ⟨bt, 5, none⟩ = some (.bool false) ∧ w'.cell? ⟨bt, 6, none⟩ = some (.bool (S == 0#8)) ∧ w'.cell? ⟨bt, 7, none⟩ = some (.bool false) ∧ w'.cell? ⟨bt, 8, none⟩ = some (.bool true) ∧ w'.cell? ⟨bt, 9, none⟩ = some (.bool false) ∧ w'.cell? ⟨bd, 0, none⟩ = some (B8 x) ∧ w'.cell? ⟨bd, 1, none⟩ = some (B8 0#8) ∧ w'.cell? ⟨bd, 2, none⟩ = some (.bool n') ∧ w'.cell? ⟨bd, 3, none⟩ = some (.bool false) ∧ w'.cell? ⟨bd, 4, none⟩ = some (.bool v') ∧ w'.cell? ⟨bd, 5, none⟩ = some (.bool false) ∧ w'.cell? ⟨bd, 6, none⟩ = some (.bool z') ∧ w'.cell? ⟨bd, 7, none⟩ = some (.bool false) ∧ w'.cell? ⟨bd, 8, none⟩ = some (.bool c') ∧ w'.cell? ⟨bd, 9, none⟩ = some (.bool false) ∧ Below w.heap.size w w') (by kernel_rfl) (by kernel_rfl) (by kernel_rfl) ?_ ?_
  · (try dsimp only)
    refine ⟨?_, ?_, ?_, ?_, ?_, ?_, ?_, ?_, ?_, ?_, ?_, ?_, ?_, ?_, ?_, ?_, ?_, ?_, ?_, ?_, ?_, ?_, ?_, ?_, ?_, ?_, ?_, ?_, ?_, ?_, ?_⟩ <;> first | (go_simp; done) | (simp [*]; done) | go_grown
  repeat (first
    | (refine Plan.val (v := ?_) ?_ ?_ ?_; rotate_left; (· rfl); (· (intro W hSw; (try dsimp only at hSw); go_simp; all_goals (first | (with_reducible rfl) | (constructor <;> (with_reducible rfl))))); (try simp only [Act.put, List.setIfInBounds_toArray, List.set_cons_zero, List.set_cons_succ]))
    | (refine Plan.no ?_ ?_; (· rfl); (try simp only [Act.put, List.setIfInBounds_toArray, List.set_cons_zero, List.set_cons_succ]))
    | (refine Plan.call (v := ?_) (f := ?_) (args := ?_) ?_ ?_ ?_ ?_; rotate_left 3; (· rfl); (· (intro W hSw; (try dsimp only at hSw); go_simp; all_goals (first | (with_reducible rfl) | (constructor <;> (with_reducible rfl))))); (· (intro W hSw; (try dsimp only at hSw); first | (go_at_call 25; ((with_reducible refine (ofB_c (u8 x) x rfl _).mono ?_); rintro _ wz ⟨rfl, hb⟩; (refine ⟨?_, ?_⟩; (· with_reducible rfl); exact ⟨kc hb hSw.1, kc hb hSw.2.1, kc hb hSw.2.2.1, kc hb hSw.2.2.2.1, kc hb hSw.2.2.2.2.1, kc hb hSw.2.2.2.2.2.1, kc hb hSw.2.2.2.2.2.2.1, kc hb hSw.2.2.2.2.2.2.2.1, kc hb hSw.2.2.2.2.2.2.2.2.1, kc hb hSw.2.2.2.2.2.2.2.2.2.1, kc hb hSw.2.2.2.2.2.2.2.2.2.2.1, kc hb hSw.2.2.2.2.2.2.2.2.2.2.2.1, kc hb hSw.2.2.2.2.2.2.2.2.2.2.2.2.1, kc hb hSw.2.2.2.2.2.2.2.2.2.2.2.2.2.1, kc hb hSw.2.2.2.2.2.2.2.2.2.2.2.2.2.2.1, kc hb hSw.2.2.2.2.2.2.2.2.2.2.2.2.2.2.2.1, kc hb hSw.2.2.2.2.2.2.2.2.2.2.2.2.2.2.2.2.1, kc hb hSw.2.2.2.2.2.2.2.2.2.2.2.2.2.2.2.2.2.1, kc hb hSw.2.2.2.2.2.2.2.2.2.2.2.2.2.2.2.2.2.2.1, kc hb hSw.2.2.2.2.2.2.2.2.2.2.2.2.2.2.2.2.2.2.2.1, kc hb hSw.2.2.2.2.2.2.2.2.2.2.2.2.2.2.2.2.2.2.2.2.1, kc hb hSw.2.2.2.2.2.2.2.2.2.2.2.2.2.2.2.2.2.2.2.2.2.1, kc hb hSw.2.2.2.2.2.2.2.2.2.2.2.2.2.2.2.2.2.2.2.2.2.2.1, kc hb hSw.2.2.2.2.2.2.2.2.2.2.2.2.2.2.2.2.2.2.2.2.2.2.2.1, kc hb hSw.2.2.2.2.2.2.2.2.2.2.2.2.2.2.2.2.2.2.2.2.2.2.2.2.1, kc hb hSw.2.2.2.2.2.2.2.2.2.2.2.2.2.2.2.2.2.2.2.2.2.2.2.2.2.1, kc hb hSw.2.2.2.2.2.2.2.2.2.2.2.2.2.2.2.2.2.2.2.2.2.2.2.2.2.2.1, kc hb hSw.2.2.2.2.2.2.2.2.2.2.2.2.2.2.2.2.2.2.2.2.2.2.2.2.2.2.2.1, kc hb hSw.2.2.2.2.2.2.2.2.2.2.2.2.2.2.2.2.2.2.2.2.2.2.2.2.2.2.2.2.1, kc hb hSw.2.2.2.2.2.2.2.2.2.2.2.2.2.2.2.2.2.2.2.2.2.2.2.2.2.2.2.2.2.1, kb hSw.2.2.2.2.2.2.2.2.2.2.2.2.2.2.2.2.2.2.2.2.2.2.2.2.2.2.2.2.2.2 hb⟩))) | (go_at_call 14; ((with_reducible refine (awake_c _).mono ?_); rintro _ wz ⟨rfl, hb⟩; (refine ⟨?_, ?_⟩; (· with_reducible rfl); exact ⟨kc hb hSw.1, kc hb hSw.2.1, kc hb hSw.2.2.1, kc hb hSw.2.2.2.1, kc hb hSw.2.2.2.2.1, kc hb hSw.2.2.2.2.2.1, kc hb hSw.2.2.2.2.2.2.1, kc hb hSw.2.2.2.2.2.2.2.1, kc hb hSw.2.2.2.2.2.2.2.2.1, kc hb hSw.2.2.2.2.2.2.2.2.2.1, kc hb hSw.2.2.2.2.2.2.2.2.2.2.1, kc hb hSw.2.2.2.2.2.2.2.2.2.2.2.1, kc hb hSw.2.2.2.2.2.2.2.2.2.2.2.2.1, kc hb hSw.2.2.2.2.2.2.2.2.2.2.2.2.2.1, kc hb hSw.2.2.2.2.2.2.2.2.2.2.2.2.2.2.1, kc hb hSw.2.2.2.2.2.2.2.2.2.2.2.2.2.2.2.1, kc hb hSw.2.2.2.2.2.2.2.2.2.2.2.2.2.2.2.2.1, kc hb hSw.2.2.2.2.2.2.2.2.2.2.2.2.2.2.2.2.2.1, kc hb hSw.2.2.2.2.2.2.2.2.2.2.2.2.2.2.2.2.2.2.1, kc hb hSw.2.2.2.2.2.2.2.2.2.2.2.2.2.2.2.2.2.2.2.1, kc hb hSw.2.2.2.2.2.2.2.2.2.2.2.2.2.2.2.2.2.2.2.2.1, kc hb hSw.2.2.2.2.2.2.2.2.2.2.2.2.2.2.2.2.2.2.2.2.2.1, kc hb hSw.2.2.2.2.2.2.2.2.2.2.2.2.2.2.2.2.2.2.2.2.2.2.1, kc hb hSw.2.2.2.2.2.2.2.2.2.2.2.2.2.2.2.2.2.2.2.2.2.2.2.1, kc hb hSw.2.2.2.2.2.2.2.2.2.2.2.2.2.2.2.2.2.2.2.2.2.2.2.2.1, kc hb hSw.2.2.2.2.2.2.2.2.2.2.2.2.2.2.2.2.2.2.2.2.2.2.2.2.2.1, kc hb hSw.2.2.2.2.2.2.2.2.2.2.2.2.2.2.2.2.2.2.2.2.2.2.2.2.2.2.1, kc hb hSw.2.2.2.2.2.2.2.2.2.2.2.2.2.2.2.2.2.2.2.2.2.2.2.2.2.2.2.1, kc hb hSw.2.2.2.2.2.2.2.2.2.2.2.2.2.2.2.2.2.2.2.2.2.2.2.2.2.2.2.2.1, kc hb hSw.2.2.2.2.2.2.2.2.2.2.2.2.2.2.2.2.2.2.2.2.2.2.2.2.2.2.2.2.2.1, kb hSw.2.2.2.2.2.2.2.2.2.2.2.2.2.2.2.2.2.2.2.2.2.2.2.2.2.2.2.2.2.2 hb⟩))))); (try simp only [Act.put, List.setIfInBounds_toArray, List.set_cons_zero, List.set_cons_succ])))
  refine Plan.done ?_
  intro wz T
  (try dsimp only at T)
  have hBe := T.2.2.2.2.2.2.2.2.2.2.2.2.2.2.2.2.2.2.2.2.2.2.2.2.2.2.2.2.2.2
  go_wp2
  go_ret
  exact ⟨rfl, hBe⟩

set_option maxRecDepth 100000 in
set_option maxHeartbeats 8000000 in
theorem back_true_false (x y S : BitVec 8) (V n' v' z' c' : Bool)
    (hs : ∀ w, Calls Try.prog 12 #[TB x 0#8, TB y 0#8, TBit true false, TBit false false] w fun e w' => e = .returned (.agg #[B8 S, B8 0#8, .bool (decide (128 ≤ u8 S)), .bool false, .bool V, .bool false, .bool (S == 0#8), .bool false, .bool false, .bool false]) ∧ Below w.heap.size w w')
    (ht : ∀ w, Calls Try.prog 12 #[TB y 0#8, TB x 0#8, TBit true false, TBit false false] w fun e w' => e = .returned (.agg #[B8 S, B8 0#8, .bool (decide (128 ≤ u8 S)), .bool false, .bool V, .bool false, .bool (S == 0#8), .bool false, .bool false, .bool false]) ∧ Below w.heap.size w w')
    (hd : ∀ w, Calls Try.prog 15 #[TB S 0#8, TB y 0#8, TBit false false, TBit false false] w fun e w' => e = .returned (.agg #[B8 x, B8 0#8, .bool n', .bool false, .bool v', .bool false, .bool z', .bool false, .bool c', .bool false]) ∧ Below w.heap.size w w')
    (hN : u8 x + u8 y + 1 = u8 S) (w : World) : Calls Try.prog 7 #[B8 x, B8 y, .bool true] w (LawEnd w) := by
  have x1 := u8_lo x
  have x2 := u8_hi x
  have y1 := u8_lo y
  have y2 := u8_hi y
  have s1 := u8_lo S
  have s2 := u8_hi S
  have k1 := u8_beq0
  have k2 := u8_beq
  have k3 := i64_u8b
  have HS := Lib.hid hs
  have HT := Lib.hid ht
  have HD := Lib.hid hd
  clear hs ht hd
  go_enter Try.func7, Try.ntmps7
  go_wp2_with fail
  refine wp_region_planA 10 9 8 #[.int .u8 0, .int .u8 0, .bool false, .bool false, .bool false, .bool false, .bool false, .bool false, .bool false, .bool false] 30 (fun w' => w'.cell? ⟨w.heap.size, 0, none⟩ = some (.bool true) ∧ w'.cell? ⟨w.heap.size, 1, none⟩ = some (.bool false) ∧ Below w.heap.size w w') (fun bs w' => w'.cell? ⟨bs, 0, none⟩ = some (.int .u8 0) ∧ w'.frozen? ⟨bs, 0, none⟩ = false ∧ w'.cell? ⟨bs, 1, none⟩ = some (.int .u8 0) ∧ w'.frozen? ⟨bs, 1, none⟩ = false ∧ w'.cell? ⟨bs, 2, none⟩ = some (.bool false) ∧ w'.frozen? ⟨bs, 2, none⟩ = false ∧ w'.cell? ⟨bs, 3, none⟩ = some (.bool false) ∧ w'.frozen? ⟨bs, 3, none⟩ = false ∧ w'.cell? ⟨bs, 4, none⟩ = some (.bool false) ∧ w'.frozen? ⟨bs, 4, none⟩ = false ∧ w'.cell? ⟨bs, 5, none⟩ = some (.bool false) ∧ w'.frozen? ⟨bs, 5, none⟩ = false ∧ w'.cell? ⟨bs, 6, none⟩ = some (.bool false) ∧ w'.frozen? ⟨bs, 6, none⟩ = false ∧ w'.cell? ⟨bs, 7, none⟩ = some (.bool false) ∧ w'.frozen? ⟨bs, 7, none⟩ = false ∧ w'.cell? ⟨bs, 8, none⟩ = some (.bool false) ∧ w'.frozen? ⟨bs, 8, none⟩ = false ∧ w'.cell? ⟨bs, 9, none⟩ = some (.bool false) ∧ w'.frozen? ⟨bs, 9, none⟩ = false ∧ w.heap.size ≤ bs ∧ w.heap.size < bs) (by kernel_rfl) (by kernel_rfl) (by kernel_rfl) (by kernel_rfl) (by kernel_rfl) ?_ (fun W w1 hSw hb => ⟨kc hb hSw.1, kc hb hSw.2.1, kb hSw.2.2 hb⟩) (fun bs W w1 hEw hb => ⟨kc hb hEw.1, kfz hb (klt hEw.1) hEw.2.1, kc hb hEw.2.2.1, kfz hb (klt hEw.2.2.1) hEw.2.2.2.1, kc hb hEw.2.2.2.2.1, kfz hb (klt hEw.2.2.2.2.1) hEw.2.2.2.2.2.1, kc hb hEw.2.2.2.2.2.2.1, kfz hb (klt hEw.2.2.2.2.2.2.1) hEw.2.2.2.2.2.2.2.1, kc hb hEw.2.2.2.2.2.2.2.2.1, kfz hb (klt hEw.2.2.2.2.2.2.2.2.1) hEw.2.2.2.2.2.2.2.2.2.1, kc hb hEw.2.2.2.2.2.2.2.2.2.2.1, kfz hb (klt hEw.2.2.2.2.2.2.2.2.2.2.1) hEw.2.2.2.2.2.2.2.2.2.2.2.1, kc hb hEw.2.2.2.2.2.2.2.2.2.2.2.2.1, kfz hb (klt hEw.2.2.2.2.2.2.2.2.2.2.2.2.1) hEw.2.2.2.2.2.2.2.2.2.2.2.2.2.1, kc hb hEw.2.2.2.2.2.2.2.2.2.2.2.2.2.2.1, kfz hb (klt hEw.2.2.2.2.2.2.2.2.2.2.2.2.2.2.1) hEw.2.2.2.2.2.2.2.2.2.2.2.2.2.2.2.1, kc hb hEw.2.2.2.2.2.2.2.2.2.2.2.2.2.2.2.2.1, kfz hb (klt hEw.2.2.2.2.2.2.2.2.2.2.2.2.2.2.2.2.1) hEw.2.2.2.2.2.2.2.2.2.2.2.2.2.2.2.2.2.1, kc hb hEw.2.2.2.2.2.2.2.2.2.2.2.2.2.2.2.2.2.2.1, kfz hb (klt hEw.2.2.2.2.2.2.2.2.2.2.2.2.2.2.2.2.2.2.1) hEw.2.2.2.2.2.2.2.2.2.2.2.2.2.2.2.2.2.2.2.1, hEw.2.2.2.2.2.2.2.2.2.2.2.2.2.2.2.2.2.2.2.2⟩) ?_ ?_ ?_
  · intro a W; show (execOp _ _).run _ _ = _; first | rfl | kernel_rfl
  · intro W hSw
    have hzW := (hSw.2.2).size
    have hkW0 := klt (hSw.1)
    refine ⟨?_, ?_, ?_, ?_, ?_, ?_, ?_, ?_, ?_, ?_, ?_, ?_, ?_, ?_, ?_, ?_, ?_, ?_, ?_, ?_, ?_, ?_⟩ <;> first | (go_simp; done) | omega | (dsimp only; omega)
  · (try dsimp only)
    refine ⟨?_, ?_, ?_⟩ <;> first | (go_simp; done) | (simp [*]; done) | go_grown
  (try simp only [List.append_eq, List.cons_append, List.nil_append, List.toList_toArray, List.take_succ_cons, List.take_zero, List.drop_succ_cons, List.drop_zero])
  repeat (first
    | (refine PlanA.skip (by decide) ?_)
    | (refine PlanA.val (v := ?_) (by decide) ?_ ?_ ?_; rotate_left; (· rfl); (· (intro W hSw; (try dsimp only at hSw); go_simp; all_goals (first | (with_reducible rfl) | (constructor <;> (with_reducible rfl))))); (try simp only [Act.put, List.setIfInBounds_toArray, List.set_cons_zero, List.set_cons_succ]))
    | (refine PlanA.no (by decide) ?_ ?_; (· rfl); (try simp only [Act.put, List.setIfInBounds_toArray, List.set_cons_zero, List.set_cons_succ]))
    | (refine PlanA.call (v := ?_) (f := ?_) (args := ?_) (by decide) ?_ ?_ ?_ ?_; rotate_left 3; (· rfl); (· (intro W hSw; (try dsimp only at hSw); go_simp; all_goals (first | (with_reducible rfl) | (constructor <;> (with_reducible rfl))))); (· (intro W hSw; (try dsimp only at hSw); first | (go_at_call 25; ((with_reducible refine (ofB_c (u8 x) x rfl _).mono ?_); rintro _ wz ⟨rfl, hb⟩; (refine ⟨?_, hb⟩; with_reducible rfl))) | (go_at_call 25; ((with_reducible refine (ofB_c (u8 y) y rfl _).mono ?_); rintro _ wz ⟨rfl, hb⟩; (refine ⟨?_, hb⟩; with_reducible rfl))) | (go_at_call 12; ((with_reducible refine (HS.out _).mono ?_); rintro _ wz ⟨rfl, hb⟩; (refine ⟨?_, hb⟩; with_reducible rfl))))); (try simp only [Act.put, List.setIfInBounds_toArray, List.set_cons_zero, List.set_cons_succ])))
  refine PlanA.done ?_
  intro bs w1 T E
  (try dsimp only at T E)
  (try simp only [Act.put, List.setIfInBounds_toArray, List.set_cons_zero, List.set_cons_succ])
  obtain ⟨hci_0, hci_1, hB⟩ := T
  obtain ⟨hs_0, fs_0, hs_1, fs_1, hs_2, fs_2, hs_3, fs_3, hs_4, fs_4, hs_5, fs_5, hs_6, fs_6, hs_7, fs_7, hs_8, fs_8, hs_9, fs_9, hg_bs, hq_bs_ci⟩ := E
  have hr_bs_ci : ¬ w.heap.size = bs := by omega
  have hs_bs_ci : ¬ bs = w.heap.size := by omega
  have hsz := hB.size
  have hlci := klt hci_0
  have hls := klt hs_0
  have hnci0 : ¬ (w.heap.size = w1.heap.size) := by omega
  have hnci1 : ¬ (w.heap.size = w1.heap.size + 1) := by omega
  have hkci1 : w.heap.size < w1.heap.size + 1 := by omega
  have hnci2 : ¬ (w.heap.size = w1.heap.size + 1 + 1) := by omega
  have hkci2 : w.heap.size < w1.heap.size + 1 + 1 := by omega
  have hns0 : ¬ (bs = w1.heap.size) := by omega
  have hns1 : ¬ (bs = w1.heap.size + 1) := by omega
  have hks1 : bs < w1.heap.size + 1 := by omega
  have hns2 : ¬ (bs = w1.heap.size + 1 + 1) := by omega
  have hks2 : bs < w1.heap.size + 1 + 1 := by omega
  go_wp2_with fail
  refine wp_region_planA 10 9 9 #[.int .u8 0, .int .u8 0, .bool false, .bool false, .bool false, .bool false, .bool false, .bool false, .bool false, .bool false] 30 (fun w' => w'.cell? ⟨w.heap.size, 0, none⟩ = some (.bool true) ∧ w'.cell? ⟨w.heap.size, 1, none⟩ = some (.bool false) ∧ w'.cell? ⟨bs, 0, none⟩ = some (B8 S) ∧ w'.cell? ⟨bs, 1, none⟩ = some (B8 0#8) ∧ w'.cell? ⟨bs, 2, none⟩ = some (.bool (decide (128 ≤ u8 S))) ∧ w'.cell? ⟨bs, 3, none⟩ = some (.bool false) ∧ w'.cell? ⟨bs, 4, none⟩ = some (.bool V) ∧ w'.cell? ⟨bs, 5, none⟩ = some (.bool false) ∧ w'.cell? ⟨bs, 6, none⟩ = some (.bool (S == 0#8)) ∧ w'.cell? ⟨bs, 7, none⟩ = some (.bool false) ∧ w'.cell? ⟨bs, 8, none⟩ = some (.bool false) ∧ w'.cell? ⟨bs, 9, none⟩ = some (.bool false) ∧ Below w.heap.size w w') (fun bt w' => w'.cell? ⟨bt, 0, none⟩ = some (.int .u8 0) ∧ w'.frozen? ⟨bt, 0, none⟩ = false ∧ w'.cell? ⟨bt, 1, none⟩ = some (.int .u8 0) ∧ w'.frozen? ⟨bt, 1, none⟩ = false ∧ w'.cell? ⟨bt, 2, none⟩ = some (.bool false) ∧ w'.frozen? ⟨bt, 2, none⟩ = false ∧ w'.cell? ⟨bt, 3, none⟩ = some (.bool false) ∧ w'.frozen? ⟨bt, 3, none⟩ = false ∧ w'.cell? ⟨bt, 4, none⟩ = some (.bool false) ∧ w'.frozen? ⟨bt, 4, none⟩ = false ∧ w'.cell? ⟨bt, 5, none⟩ = some (.bool false) ∧ w'.frozen? ⟨bt, 5, none⟩ = false ∧ w'.cell? ⟨bt, 6, none⟩ = some (.bool false) ∧ w'.frozen? ⟨bt, 6, none⟩ = false ∧ w'.cell? ⟨bt, 7, none⟩ = some (.bool false) ∧ w'.frozen? ⟨bt, 7, none⟩ = false ∧ w'.cell? ⟨bt, 8, none⟩ = some (.bool false) ∧ w'.frozen? ⟨bt, 8, none⟩ = false ∧ w'.cell? ⟨bt, 9, none⟩ = some (.bool false) ∧ w'.frozen? ⟨bt, 9, none⟩ = false ∧ w.heap.size ≤ bt ∧ w.heap.size < bt ∧ bs < bt) (by kernel_rfl) (by kernel_rfl) (by kernel_rfl) (by kernel_rfl) (by kernel_rfl) ?_ (fun W w1 hSw hb => ⟨kc hb hSw.1, kc hb hSw.2.1, kc hb hSw.2.2.1, kc hb hSw.2.2.2.1, kc hb hSw.2.2.2.2.1, kc hb hSw.2.2.2.2.2.1, kc hb hSw.2.2.2.2.2.2.1, kc hb hSw.2.2.2.2.2.2.2.1, kc hb hSw.2.2.2.2.2.2.2.2.1, kc hb hSw.2.2.2.2.2.2.2.2.2.1, kc hb hSw.2.2.2.2.2.2.2.2.2.2.1, kc hb hSw.2.2.2.2.2.2.2.2.2.2.2.1, kb hSw.2.2.2.2.2.2.2.2.2.2.2.2 hb⟩) (fun bt W w1 hEw hb => ⟨kc hb hEw.1, kfz hb (klt hEw.1) hEw.2.1, kc hb hEw.2.2.1, kfz hb (klt hEw.2.2.1) hEw.2.2.2.1, kc hb hEw.2.2.2.2.1, kfz hb (klt hEw.2.2.2.2.1) hEw.2.2.2.2.2.1, kc hb hEw.2.2.2.2.2.2.1, kfz hb (klt hEw.2.2.2.2.2.2.1) hEw.2.2.2.2.2.2.2.1, kc hb hEw.2.2.2.2.2.2.2.2.1, kfz hb (klt hEw.2.2.2.2.2.2.2.2.1) hEw.2.2.2.2.2.2.2.2.2.1, kc hb hEw.2.2.2.2.2.2.2.2.2.2.1, kfz hb (klt hEw.2.2.2.2.2.2.2.2.2.2.1) hEw.2.2.2.2.2.2.2.2.2.2.2.1, kc hb hEw.2.2.2.2.2.2.2.2.2.2.2.2.1, kfz hb (klt hEw.2.2.2.2.2.2.2.2.2.2.2.2.1) hEw.2.2.2.2.2.2.2.2.2.2.2.2.2.1, kc hb hEw.2.2.2.2.2.2.2.2.2.2.2.2.2.2.1, kfz hb (klt hEw.2.2.2.2.2.2.2.2.2.2.2.2.2.2.1) hEw.2.2.2.2.2.2.2.2.2.2.2.2.2.2.2.1, kc hb hEw.2.2.2.2.2.2.2.2.2.2.2.2.2.2.2.2.1, kfz hb (klt hEw.2.2.2.2.2.2.2.2.2.2.2.2.2.2.2.2.1) hEw.2.2.2.2.2.2.2.2.2.2.2.2.2.2.2.2.2.1, kc hb hEw.2.2.2.2.2.2.2.2.2.2.2.2.2.2.2.2.2.2.1, kfz hb (klt hEw.2.2.2.2.2.2.2.2.2.2.2.2.2.2.2.2.2.2.1) hEw.2.2.2.2.2.2.2.2.2.2.2.2.2.2.2.2.2.2.2.1, hEw.2.2.2.2.2.2.2.2.2.2.2.2.2.2.2.2.2.2.2.2⟩) ?_ ?_ ?_
  · intro a W; show (execOp _ _).run _ _ = _; first | rfl | kernel_rfl
  · intro W hSw
    have hzW := (hSw.2.2.2.2.2.2.2.2.2.2.2.2).size
    have hkW0 := klt (hSw.1)
    have hkW2 := klt (hSw.2.2.1)
    refine ⟨?_, ?_, ?_, ?_, ?_, ?_, ?_, ?_, ?_, ?_, ?_, ?_, ?_, ?_, ?_, ?_, ?_, ?_, ?_, ?_, ?_, ?_, ?_⟩ <;> first | (go_simp; done) | omega | (dsimp only; omega)
  · (try dsimp only)
    refine ⟨?_, ?_, ?_, ?_, ?_, ?_, ?_, ?_, ?_, ?_, ?_, ?_, ?_⟩ <;> first | (go_simp; done) | (simp [*]; done) | go_grown
  (try simp only [List.append_eq, List.cons_append, List.nil_append, List.toList_toArray, List.take_succ_cons, List.take_zero, List.drop_succ_cons, List.drop_zero])
  repeat (first
    | (refine PlanA.skip (by decide) ?_)
    | (refine PlanA.val (v := ?_) (by decide) ?_ ?_ ?_; rotate_left; (· rfl); (· (intro W hSw; (try dsimp only at hSw); go_simp; all_goals (first | (with_reducible rfl) | (constructor <;> (with_reducible rfl))))); (try simp only [Act.put, List.setIfInBounds_toArray, List.set_cons_zero, List.set_cons_succ]))
    | (refine PlanA.no (by decide) ?_ ?_; (· rfl); (try simp only [Act.put, List.setIfInBounds_toArray, List.set_cons_zero, List.set_cons_succ]))
    | (refine PlanA.call (v := ?_) (f := ?_) (args := ?_) (by decide) ?_ ?_ ?_ ?_; rotate_left 3; (· rfl); (· (intro W hSw; (try dsimp only at hSw); go_simp; all_goals (first | (with_reducible rfl) | (constructor <;> (with_reducible rfl))))); (· (intro W hSw; (try dsimp only at hSw); first | (go_at_call 25; ((with_reducible refine (ofB_c (u8 x) x rfl _).mono ?_); rintro _ wz ⟨rfl, hb⟩; (refine ⟨?_, hb⟩; with_reducible rfl))) | (go_at_call 25; ((with_reducible refine (ofB_c (u8 y) y rfl _).mono ?_); rintro _ wz ⟨rfl, hb⟩; (refine ⟨?_, hb⟩; with_reducible rfl))) | (go_at_call 12; ((with_reducible refine (HT.out _).mono ?_); rintro _ wz ⟨rfl, hb⟩; (refine ⟨?_, hb⟩; with_reducible rfl))))); (try simp only [Act.put, List.setIfInBounds_toArray, List.set_cons_zero, List.set_cons_succ])))
  refine PlanA.done ?_
  intro bt w2 T E
  (try dsimp only at T E)
  (try simp only [Act.put, List.setIfInBounds_toArray, List.set_cons_zero, List.set_cons_succ])
  clear hci_0 hci_1 hs_0 fs_0 hs_1 fs_1 hs_2 fs_2 hs_3 fs_3 hs_4 fs_4 hs_5 fs_5 hs_6 fs_6 hs_7 fs_7 hs_8 fs_8 hs_9 fs_9 hB hsz hlci hls hnci0 hnci1 hkci1 hnci2 hkci2 hns0 hns1 hks1 hns2 hks2
  obtain ⟨hci_0, hci_1, hsv_0, hsv_1, hsv_2, hsv_3, hsv_4, hsv_5, hsv_6, hsv_7, hsv_8, hsv_9, hB⟩ := T
  obtain ⟨ht_0, ft_0, ht_1, ft_1, ht_2, ft_2, ht_3, ft_3, ht_4, ft_4, ht_5, ft_5, ht_6, ft_6, ht_7, ft_7, ht_8, ft_8, ht_9, ft_9, hg_bt, hq_bt_ci, hq_bt_sv⟩ := E
  have hr_bt_ci : ¬ w.heap.size = bt := by omega
  have hs_bt_ci : ¬ bt = w.heap.size := by omega
  have hr_bt_sv : ¬ bs = bt := by omega
  have hs_bt_sv : ¬ bt = bs := by omega
  have hsz := hB.size
  have hlci := klt hci_0
  have hlsv := klt hsv_0
  have hlt := klt ht_0
  have hnci0 : ¬ (w.heap.size = w2.heap.size) := by omega
  have hnci1 : ¬ (w.heap.size = w2.heap.size + 1) := by omega
  have hkci1 : w.heap.size < w2.heap.size + 1 := by omega
  have hnci2 : ¬ (w.heap.size = w2.heap.size + 1 + 1) := by omega
  have hkci2 : w.heap.size < w2.heap.size + 1 + 1 := by omega
  have hnsv0 : ¬ (bs = w2.heap.size) := by omega
  have hnsv1 : ¬ (bs = w2.heap.size + 1) := by omega
  have hksv1 : bs < w2.heap.size + 1 := by omega
  have hnsv2 : ¬ (bs = w2.heap.size + 1 + 1) := by omega
  have hksv2 : bs < w2.heap.size + 1 + 1 := by omega
  have hnt0 : ¬ (bt = w2.heap.size) := by omega
  have hnt1 : ¬ (bt = w2.heap.size + 1) := by omega
  have hkt1 : bt < w2.heap.size + 1 := by omega
  have hnt2 : ¬ (bt = w2.heap.size + 1 + 1) := by omega
  have hkt2 : bt < w2.heap.size + 1 + 1 := by omega
  go_wp2_with fail
  refine wp_region_planA 11 10 12 #[.int .u8 0, .int .u8 0, .bool false, .bool false, .bool false, .bool false, .bool false, .bool false, .bool false, .bool false] 30 (fun w' => w'.cell? ⟨bs, 0, none⟩ = some (B8 S) ∧ w'.cell? ⟨bs, 1, none⟩ = some (B8 0#8) ∧ w'.cell? ⟨bs, 2, none⟩ = some (.bool (decide (128 ≤ u8 S))) ∧ w'.cell? ⟨bs, 3, none⟩ = some (.bool false) ∧ w'.cell? ⟨bs, 4, none⟩ = some (.bool V) ∧ w'.cell? ⟨bs, 5, none⟩ = some (.bool false) ∧ w'.cell? ⟨bs, 6, none⟩ = some (.bool (S == 0#8)) ∧ w'.cell? ⟨bs, 7, none⟩ = some (.bool false) ∧ w'.cell? ⟨bs, 8, none⟩ = some (.bool false) ∧ w'.cell? ⟨bs, 9, none⟩ = some (.bool false) ∧ w'.cell? ⟨bt, 0, none⟩ = some (B8 S) ∧ w'.cell? ⟨bt, 1, none⟩ = some (B8 0#8) ∧ w'.cell? ⟨bt, 2, none⟩ = some (.bool (decide (128 ≤ u8 S))) ∧ w'.cell? ⟨bt, 3, none⟩ = some (.bool false) ∧ w'.cell? ⟨bt, 4, none⟩ = some (.bool V) ∧ w'.cell? ⟨bt, 5, none⟩ = some (.bool false) ∧ w'.cell? ⟨bt, 6, none⟩ = some (.bool (S == 0#8)) ∧ w'.cell? ⟨bt, 7, none⟩ = some (.bool false) ∧ w'.cell? ⟨bt, 8, none⟩ = some (.bool false) ∧ w'.cell? ⟨bt, 9, none⟩ = some (.bool false) ∧ Below w.heap.size w w') (fun bd w' => w'.cell? ⟨bd, 0, none⟩ = some (.int .u8 0) ∧ w'.frozen? ⟨bd, 0, none⟩ = false ∧ w'.cell? ⟨bd, 1, none⟩ = some (.int .u8 0) ∧ w'.frozen? ⟨bd, 1, none⟩ = false ∧ w'.cell? ⟨bd, 2, none⟩ = some (.bool false) ∧ w'.frozen? ⟨bd, 2, none⟩ = false ∧ w'.cell? ⟨bd, 3, none⟩ = some (.bool false) ∧ w'.frozen? ⟨bd, 3, none⟩ = false ∧ w'.cell? ⟨bd, 4, none⟩ = some (.bool false) ∧ w'.frozen? ⟨bd, 4, none⟩ = false ∧ w'.cell? ⟨bd, 5, none⟩ = some (.bool false) ∧ w'.frozen? ⟨bd, 5, none⟩ = false ∧ w'.cell? ⟨bd, 6, none⟩ = some (.bool false) ∧ w'.frozen? ⟨bd, 6, none⟩ = false ∧ w'.cell? ⟨bd, 7, none⟩ = some (.bool false) ∧ w'.frozen? ⟨bd, 7, none⟩ = false ∧ w'.cell? ⟨bd, 8, none⟩ = some (.bool false) ∧ w'.frozen? ⟨bd, 8, none⟩ = false ∧ w'.cell? ⟨bd, 9, none⟩ = some (.bool false) ∧ w'.frozen? ⟨bd, 9, none⟩ = false ∧ w.heap.size ≤ bd ∧ bs < bd ∧ bt < bd) (by kernel_rfl) (by kernel_rfl) (by kernel_rfl) (by kernel_rfl) (by kernel_rfl) ?_ (fun W w1 hSw hb => ⟨kc hb hSw.1, kc hb hSw.2.1, kc hb hSw.2.2.1, kc hb hSw.2.2.2.1, kc hb hSw.2.2.2.2.1, kc hb hSw.2.2.2.2.2.1, kc hb hSw.2.2.2.2.2.2.1, kc hb hSw.2.2.2.2.2.2.2.1, kc hb hSw.2.2.2.2.2.2.2.2.1, kc hb hSw.2.2.2.2.2.2.2.2.2.1, kc hb hSw.2.2.2.2.2.2.2.2.2.2.1, kc hb hSw.2.2.2.2.2.2.2.2.2.2.2.1, kc hb hSw.2.2.2.2.2.2.2.2.2.2.2.2.1, kc hb hSw.2.2.2.2.2.2.2.2.2.2.2.2.2.1, kc hb hSw.2.2.2.2.2.2.2.2.2.2.2.2.2.2.1, kc hb hSw.2.2.2.2.2.2.2.2.2.2.2.2.2.2.2.1, kc hb hSw.2.2.2.2.2.2.2.2.2.2.2.2.2.2.2.2.1, kc hb hSw.2.2.2.2.2.2.2.2.2.2.2.2.2.2.2.2.2.1, kc hb hSw.2.2.2.2.2.2.2.2.2.2.2.2.2.2.2.2.2.2.1, kc hb hSw.2.2.2.2.2.2.2.2.2.2.2.2.2.2.2.2.2.2.2.1, kb hSw.2.2.2.2.2.2.2.2.2.2.2.2.2.2.2.2.2.2.2.2 hb⟩) (fun bd W w1 hEw hb => ⟨kc hb hEw.1, kfz hb (klt hEw.1) hEw.2.1, kc hb hEw.2.2.1, kfz hb (klt hEw.2.2.1) hEw.2.2.2.1, kc hb hEw.2.2.2.2.1, kfz hb (klt hEw.2.2.2.2.1) hEw.2.2.2.2.2.1, kc hb hEw.2.2.2.2.2.2.1, kfz hb (klt hEw.2.2.2.2.2.2.1) hEw.2.2.2.2.2.2.2.1, kc hb hEw.2.2.2.2.2.2.2.2.1, kfz hb (klt hEw.2.2.2.2.2.2.2.2.1) hEw.2.2.2.2.2.2.2.2.2.1, kc hb hEw.2.2.2.2.2.2.2.2.2.2.1, kfz hb (klt hEw.2.2.2.2.2.2.2.2.2.2.1) hEw.2.2.2.2.2.2.2.2.2.2.2.1, kc hb hEw.2.2.2.2.2.2.2.2.2.2.2.2.1, kfz hb (klt hEw.2.2.2.2.2.2.2.2.2.2.2.2.1) hEw.2.2.2.2.2.2.2.2.2.2.2.2.2.1, kc hb hEw.2.2.2.2.2.2.2.2.2.2.2.2.2.2.1, kfz hb (klt hEw.2.2.2.2.2.2.2.2.2.2.2.2.2.2.1) hEw.2.2.2.2.2.2.2.2.2.2.2.2.2.2.2.1, kc hb hEw.2.2.2.2.2.2.2.2.2.2.2.2.2.2.2.2.1, kfz hb (klt hEw.2.2.2.2.2.2.2.2.2.2.2.2.2.2.2.2.1) hEw.2.2.2.2.2.2.2.2.2.2.2.2.2.2.2.2.2.1, kc hb hEw.2.2.2.2.2.2.2.2.2.2.2.2.2.2.2.2.2.2.1, kfz hb (klt hEw.2.2.2.2.2.2.2.2.2.2.2.2.2.2.2.2.2.2.1) hEw.2.2.2.2.2.2.2.2.2.2.2.2.2.2.2.2.2.2.2.1, hEw.2.2.2.2.2.2.2.2.2.2.2.2.2.2.2.2.2.2.2.2⟩) ?_ ?_ ?_
  · intro a W; show (execOp _ _).run _ _ = _; first | rfl | kernel_rfl
  · intro W hSw
    have hzW := (hSw.2.2.2.2.2.2.2.2.2.2.2.2.2.2.2.2.2.2.2.2).size
    have hkW0 := klt (hSw.1)
    have hkW10 := klt (hSw.2.2.2.2.2.2.2.2.2.2.1)
    refine ⟨?_, ?_, ?_, ?_, ?_, ?_, ?_, ?_, ?_, ?_, ?_, ?_, ?_, ?_, ?_, ?_, ?_, ?_, ?_, ?_, ?_, ?_, ?_⟩ <;> first | (go_simp; done) | omega | (dsimp only; omega)
  · (try dsimp only)
    refine ⟨?_, ?_, ?_, ?_, ?_, ?_, ?_, ?_, ?_, ?_, ?_, ?_, ?_, ?_, ?_, ?_, ?_, ?_, ?_, ?_, ?_⟩ <;> first | (go_simp; done) | (simp [*]; done) | go_grown
  (try simp only [List.append_eq, List.cons_append, List.nil_append, List.toList_toArray, List.take_succ_cons, List.take_zero, List.drop_succ_cons, List.drop_zero])
  repeat (first
    | (refine PlanA.skip (by decide) ?_)
    | (refine PlanA.val (v := ?_) (by decide) ?_ ?_ ?_; rotate_left; (· rfl); (· (intro W hSw; (try dsimp only at hSw); go_simp; all_goals (first | (with_reducible rfl) | (constructor <;> (with_reducible rfl))))); (try simp only [Act.put, List.setIfInBounds_toArray, List.set_cons_zero, List.set_cons_succ]))
    | (refine PlanA.no (by decide) ?_ ?_; (· rfl); (try simp only [Act.put, List.setIfInBounds_toArray, List.set_cons_zero, List.set_cons_succ]))
    | (refine PlanA.call (v := ?_) (f := ?_) (args := ?_) (by decide) ?_ ?_ ?_ ?_; rotate_left 3; (· rfl); (· (intro W hSw; (try dsimp only at hSw); go_simp; all_goals (first | (with_reducible rfl) | (constructor <;> (with_reducible rfl))))); (· (intro W hSw; (try dsimp only at hSw); first | (go_at_call 25; ((with_reducible refine (ofB_c (u8 y) y rfl _).mono ?_); rintro _ wz ⟨rfl, hb⟩; (refine ⟨?_, hb⟩; with_reducible rfl))) | (go_at_call 15; ((with_reducible refine (HD.out _).mono ?_); rintro _ wz ⟨rfl, hb⟩; (refine ⟨?_, hb⟩; with_reducible rfl))))); (try simp only [Act.put, List.setIfInBounds_toArray, List.set_cons_zero, List.set_cons_succ])))
  refine PlanA.done ?_
  intro bd w3 T E
  (try dsimp only at T E)
  (try simp only [Act.put, List.setIfInBounds_toArray, List.set_cons_zero, List.set_cons_succ])
  clear hci_0 hci_1 hsv_0 hsv_1 hsv_2 hsv_3 hsv_4 hsv_5 hsv_6 hsv_7 hsv_8 hsv_9 ht_0 ft_0 ht_1 ft_1 ht_2 ft_2 ht_3 ft_3 ht_4 ft_4 ht_5 ft_5 ht_6 ft_6 ht_7 ft_7 ht_8 ft_8 ht_9 ft_9 hB hsz hlci hlsv hlt hnci0 hnci1 hkci1 hnci2 hkci2 hnsv0 hnsv1 hksv1 hnsv2 hksv2 hnt0 hnt1 hkt1 hnt2 hkt2
  obtain ⟨hsv_0, hsv_1, hsv_2, hsv_3, hsv_4, hsv_5, hsv_6, hsv_7, hsv_8, hsv_9, htv_0, htv_1, htv_2, htv_3, htv_4, htv_5, htv_6, htv_7, htv_8, htv_9, hB⟩ := T
  obtain ⟨hd_0, fd_0, hd_1, fd_1, hd_2, fd_2, hd_3, fd_3, hd_4, fd_4, hd_5, fd_5, hd_6, fd_6, hd_7, fd_7, hd_8, fd_8, hd_9, fd_9, hg_bd, hq_bd_sv, hq_bd_tv⟩ := E
  have hr_bd_sv : ¬ bs = bd := by omega
  have hs_bd_sv : ¬ bd = bs := by omega
  have hr_bd_tv : ¬ bt = bd := by omega
  have hs_bd_tv : ¬ bd = bt := by omega
  have hsz := hB.size
  have hlsv := klt hsv_0
  have hltv := klt htv_0
  have hld := klt hd_0
  have hnsv0 : ¬ (bs = w3.heap.size) := by omega
  have hnsv1 : ¬ (bs = w3.heap.size + 1) := by omega
  have hksv1 : bs < w3.heap.size + 1 := by omega
  have hnsv2 : ¬ (bs = w3.heap.size + 1 + 1) := by omega
  have hksv2 : bs < w3.heap.size + 1 + 1 := by omega
  have hntv0 : ¬ (bt = w3.heap.size) := by omega
  have hntv1 : ¬ (bt = w3.heap.size + 1) := by omega
  have hktv1 : bt < w3.heap.size + 1 := by omega
  have hntv2 : ¬ (bt = w3.heap.size + 1 + 1) := by omega
  have hktv2 : bt < w3.heap.size + 1 + 1 := by omega
  have hnd0 : ¬ (bd = w3.heap.size) := by omega
  have hnd1 : ¬ (bd = w3.heap.size + 1) := by omega
  have hkd1 : bd < w3.heap.size + 1 := by omega
  have hnd2 : ¬ (bd = w3.heap.size + 1 + 1) := by omega
  have hkd2 : bd < w3.heap.size + 1 + 1 := by omega
  go_wp2_with fail
  refine wp_region_plan (fun w' => w'.cell? ⟨bs, 0, none⟩ = some (B8 S) ∧ w'.cell? ⟨bs, 1, none⟩ = some (B8 0#8) ∧ w'.cell? ⟨bs, 2, none⟩ = some (.bool (decide (128 ≤ u8 S))) ∧ w'.cell? ⟨bs, 3, none⟩ = some (.bool false) ∧ w'.cell? ⟨bs, 4, none⟩ = some (.bool V) ∧ w'.cell? ⟨bs, 5, none⟩ = some (.bool false) ∧ w'.cell? ⟨bs, 6, none⟩ = some (.bool (S == 0#8)) ∧ w'.cell? ⟨bs, 7, none⟩ = some (.bool false) ∧ w'.cell? ⟨bs, 8, none⟩ = some (.bool false) ∧ w'.cell? ⟨bs, 9, none⟩ = some (.bool false) ∧ w'.cell? ⟨bt, 0, none⟩ = some (B8 S) ∧ w'.cell? ⟨bt, 1, none⟩ = some (B8 0#8) ∧ w'.cell? ⟨bt, 2, none⟩ = some (.bool (decide (128 ≤ u8 S))) ∧ w'.cell? ⟨bt, 3, none⟩ = some (.bool false) ∧ w'.cell? ⟨bt, 4, none⟩ = some (.bool V) ∧ w'.cell? ⟨bt, 5, none⟩ = some (.bool false) ∧ w'.cell? ⟨bt, 6, none⟩ = some (.bool (S == 0#8)) ∧ w'.cell? ⟨bt, 7, none⟩ = some (.bool false) ∧ w'.cell? ⟨bt, 8, none⟩ = some (.bool false) ∧ w'.cell? ⟨bt, 9, none⟩ = some (.bool false) ∧ w'.cell? ⟨bd, 0, none⟩ = some (B8 x) ∧ w'.cell? ⟨bd, 1, none⟩ = some (B8 0#8) ∧ w'.cell? ⟨bd, 2, none⟩ = some (.bool n') ∧ w'.cell? ⟨bd, 3, none⟩ = some (.bool false) ∧ w'.cell? ⟨bd, 4, none⟩ = some (.bool v') ∧ w'.cell? ⟨bd, 5, none⟩ = some (.bool false) ∧ w'.cell? ⟨bd, 6, none⟩ = some (.bool z') ∧ w'.cell? ⟨bd, 7, none⟩ = some (.bool false) ∧ w'.cell? ⟨bd, 8, none⟩ = some (.bool c') ∧ w'.cell? ⟨bd, 9, none⟩ = some (.bool false) ∧ Below w.heap.size w w') (by kernel_rfl) (by kernel_rfl) (by kernel_rfl) ?_ ?_
  · (try dsimp only)
    refine ⟨?_, ?_, ?_, ?_, ?_, ?_, ?_, ?_, ?_, ?_, ?_, ?_, ?_, ?_, ?_, ?_, ?_, ?_, ?_, ?_, ?_, ?_, ?_, ?_, ?_, ?_, ?_, ?_, ?_, ?_, ?_⟩ <;> first | (go_simp; done) | (simp [*]; done) | go_grown
  repeat (first
    | (refine Plan.val (v := ?_) ?_ ?_ ?_; rotate_left; (· rfl); (· (intro W hSw; (try dsimp only at hSw); go_simp; all_goals (first | (with_reducible rfl) | (constructor <;> (with_reducible rfl))))); (try simp only [Act.put, List.setIfInBounds_toArray, List.set_cons_zero, List.set_cons_succ]))
    | (refine Plan.no ?_ ?_; (· rfl); (try simp only [Act.put, List.setIfInBounds_toArray, List.set_cons_zero, List.set_cons_succ]))
    | (refine Plan.call (v := ?_) (f := ?_) (args := ?_) ?_ ?_ ?_ ?_; rotate_left 3; (· rfl); (· (intro W hSw; (try dsimp only at hSw); go_simp; all_goals (first | (with_reducible rfl) | (constructor <;> (with_reducible rfl))))); (· (intro W hSw; (try dsimp only at hSw); first | (go_at_call 25; ((with_reducible refine (ofB_c (u8 x) x rfl _).mono ?_); rintro _ wz ⟨rfl, hb⟩; (refine ⟨?_, ?_⟩; (· with_reducible rfl); exact ⟨kc hb hSw.1, kc hb hSw.2.1, kc hb hSw.2.2.1, kc hb hSw.2.2.2.1, kc hb hSw.2.2.2.2.1, kc hb hSw.2.2.2.2.2.1, kc hb hSw.2.2.2.2.2.2.1, kc hb hSw.2.2.2.2.2.2.2.1, kc hb hSw.2.2.2.2.2.2.2.2.1, kc hb hSw.2.2.2.2.2.2.2.2.2.1, kc hb hSw.2.2.2.2.2.2.2.2.2.2.1, kc hb hSw.2.2.2.2.2.2.2.2.2.2.2.1, kc hb hSw.2.2.2.2.2.2.2.2.2.2.2.2.1, kc hb hSw.2.2.2.2.2.2.2.2.2.2.2.2.2.1, kc hb hSw.2.2.2.2.2.2.2.2.2.2.2.2.2.2.1, kc hb hSw.2.2.2.2.2.2.2.2.2.2.2.2.2.2.2.1, kc hb hSw.2.2.2.2.2.2.2.2.2.2.2.2.2.2.2.2.1, kc hb hSw.2.2.2.2.2.2.2.2.2.2.2.2.2.2.2.2.2.1, kc hb hSw.2.2.2.2.2.2.2.2.2.2.2.2.2.2.2.2.2.2.1, kc hb hSw.2.2.2.2.2.2.2.2.2.2.2.2.2.2.2.2.2.2.2.1, kc hb hSw.2.2.2.2.2.2.2.2.2.2.2.2.2.2.2.2.2.2.2.2.1, kc hb hSw.2.2.2.2.2.2.2.2.2.2.2.2.2.2.2.2.2.2.2.2.2.1, kc hb hSw.2.2.2.2.2.2.2.2.2.2.2.2.2.2.2.2.2.2.2.2.2.2.1, kc hb hSw.2.2.2.2.2.2.2.2.2.2.2.2.2.2.2.2.2.2.2.2.2.2.2.1, kc hb hSw.2.2.2.2.2.2.2.2.2.2.2.2.2.2.2.2.2.2.2.2.2.2.2.2.1, kc hb hSw.2.2.2.2.2.2.2.2.2.2.2.2.2.2.2.2.2.2.2.2.2.2.2.2.2.1, kc hb hSw.2.2.2.2.2.2.2.2.2.2.2.2.2.2.2.2.2.2.2.2.2.2.2.2.2.2.1, kc hb hSw.2.2.2.2.2.2.2.2.2.2.2.2.2.2.2.2.2.2.2.2.2.2.2.2.2.2.2.1, kc hb hSw.2.2.2.2.2.2.2.2.2.2.2.2.2.2.2.2.2.2.2.2.2.2.2.2.2.2.2.2.1, kc hb hSw.2.2.2.2.2.2.2.2.2.2.2.2.2.2.2.2.2.2.2.2.2.2.2.2.2.2.2.2.2.1, kb hSw.2.2.2.2.2.2.2.2.2.2.2.2.2.2.2.2.2.2.2.2.2.2.2.2.2.2.2.2.2.2 hb⟩))) | (go_at_call 14; ((with_reducible refine (awake_c _).mono ?_); rintro _ wz ⟨rfl, hb⟩; (refine ⟨?_, ?_⟩; (· with_reducible rfl); exact ⟨kc hb hSw.1, kc hb hSw.2.1, kc hb hSw.2.2.1, kc hb hSw.2.2.2.1, kc hb hSw.2.2.2.2.1, kc hb hSw.2.2.2.2.2.1, kc hb hSw.2.2.2.2.2.2.1, kc hb hSw.2.2.2.2.2.2.2.1, kc hb hSw.2.2.2.2.2.2.2.2.1, kc hb hSw.2.2.2.2.2.2.2.2.2.1, kc hb hSw.2.2.2.2.2.2.2.2.2.2.1, kc hb hSw.2.2.2.2.2.2.2.2.2.2.2.1, kc hb hSw.2.2.2.2.2.2.2.2.2.2.2.2.1, kc hb hSw.2.2.2.2.2.2.2.2.2.2.2.2.2.1, kc hb hSw.2.2.2.2.2.2.2.2.2.2.2.2.2.2.1, kc hb hSw.2.2.2.2.2.2.2.2.2.2.2.2.2.2.2.1, kc hb hSw.2.2.2.2.2.2.2.2.2.2.2.2.2.2.2.2.1, kc hb hSw.2.2.2.2.2.2.2.2.2.2.2.2.2.2.2.2.2.1, kc hb hSw.2.2.2.2.2.2.2.2.2.2.2.2.2.2.2.2.2.2.1, kc hb hSw.2.2.2.2.2.2.2.2.2.2.2.2.2.2.2.2.2.2.2.1, kc hb hSw.2.2.2.2.2.2.2.2.2.2.2.2.2.2.2.2.2.2.2.2.1, kc hb hSw.2.2.2.2.2.2.2.2.2.2.2.2.2.2.2.2.2.2.2.2.2.1, kc hb hSw.2.2.2.2.2.2.2.2.2.2.2.2.2.2.2.2.2.2.2.2.2.2.1, kc hb hSw.2.2.2.2.2.2.2.2.2.2.2.2.2.2.2.2.2.2.2.2.2.2.2.1, kc hb hSw.2.2.2.2.2.2.2.2.2.2.2.2.2.2.2.2.2.2.2.2.2.2.2.2.1, kc hb hSw.2.2.2.2.2.2.2.2.2.2.2.2.2.2.2.2.2.2.2.2.2.2.2.2.2.1, kc hb hSw.2.2.2.2.2.2.2.2.2.2.2.2.2.2.2.2.2.2.2.2.2.2.2.2.2.2.1, kc hb hSw.2.2.2.2.2.2.2.2.2.2.2.2.2.2.2.2.2.2.2.2.2.2.2.2.2.2.2.1, kc hb hSw.2.2.2.2.2.2.2.2.2.2.2.2.2.2.2.2.2.2.2.2.2.2.2.2.2.2.2.2.1, kc hb hSw.2.2.2.2.2.2.2.2.2.2.2.2.2.2.2.2.2.2.2.2.2.2.2.2.2.2.2.2.2.1, kb hSw.2.2.2.2.2.2.2.2.2.2.2.2.2.2.2.2.2.2.2.2.2.2.2.2.2.2.2.2.2.2 hb⟩))))); (try simp only [Act.put, List.setIfInBounds_toArray, List.set_cons_zero, List.set_cons_succ])))
  refine Plan.done ?_
  intro wz T
  (try dsimp only at T)
  have hBe := T.2.2.2.2.2.2.2.2.2.2.2.2.2.2.2.2.2.2.2.2.2.2.2.2.2.2.2.2.2.2
  go_wp2
  go_ret
  exact ⟨rfl, hBe⟩

set_option maxRecDepth 100000 in
set_option maxHeartbeats 8000000 in
theorem back_true_true (x y S : BitVec 8) (V n' v' z' c' : Bool)
    (hs : ∀ w, Calls Try.prog 12 #[TB x 0#8, TB y 0#8, TBit true false, TBit false false] w fun e w' => e = .returned (.agg #[B8 S, B8 0#8, .bool (decide (128 ≤ u8 S)), .bool false, .bool V, .bool false, .bool (S == 0#8), .bool false, .bool true, .bool false]) ∧ Below w.heap.size w w')
    (ht : ∀ w, Calls Try.prog 12 #[TB y 0#8, TB x 0#8, TBit true false, TBit false false] w fun e w' => e = .returned (.agg #[B8 S, B8 0#8, .bool (decide (128 ≤ u8 S)), .bool false, .bool V, .bool false, .bool (S == 0#8), .bool false, .bool true, .bool false]) ∧ Below w.heap.size w w')
    (hd : ∀ w, Calls Try.prog 15 #[TB S 0#8, TB y 0#8, TBit false false, TBit false false] w fun e w' => e = .returned (.agg #[B8 x, B8 0#8, .bool n', .bool false, .bool v', .bool false, .bool z', .bool false, .bool c', .bool false]) ∧ Below w.heap.size w w')
    (hN : u8 x + u8 y + 1 = u8 S + 256) (w : World) : Calls Try.prog 7 #[B8 x, B8 y, .bool true] w (LawEnd w) := by
  have x1 := u8_lo x
  have x2 := u8_hi x
  have y1 := u8_lo y
  have y2 := u8_hi y
  have s1 := u8_lo S
  have s2 := u8_hi S
  have k1 := u8_beq0
  have k2 := u8_beq
  have k3 := i64_u8b
  have HS := Lib.hid hs
  have HT := Lib.hid ht
  have HD := Lib.hid hd
  clear hs ht hd
  go_enter Try.func7, Try.ntmps7
  go_wp2_with fail
  refine wp_region_planA 10 9 8 #[.int .u8 0, .int .u8 0, .bool false, .bool false, .bool false, .bool false, .bool false, .bool false, .bool false, .bool false] 30 (fun w' => w'.cell? ⟨w.heap.size, 0, none⟩ = some (.bool true) ∧ w'.cell? ⟨w.heap.size, 1, none⟩ = some (.bool false) ∧ Below w.heap.size w w') (fun bs w' => w'.cell? ⟨bs, 0, none⟩ = some (.int .u8 0) ∧ w'.frozen? ⟨bs, 0, none⟩ = false ∧ w'.cell? ⟨bs, 1, none⟩ = some (.int .u8 0) ∧ w'.frozen? ⟨bs, 1, none⟩ = false ∧ w'.cell? ⟨bs, 2, none⟩ = some (.bool false) ∧ w'.frozen? ⟨bs, 2, none⟩ = false ∧ w'.cell? ⟨bs, 3, none⟩ = some (.bool false) ∧ w'.frozen? ⟨bs, 3, none⟩ = false ∧ w'.cell? ⟨bs, 4, none⟩ = some (.bool false) ∧ w'.frozen? ⟨bs, 4, none⟩ = false ∧ w'.cell? ⟨bs, 5, none⟩ = some (.bool false) ∧ w'.frozen? ⟨bs, 5, none⟩ = false ∧ w'.cell? ⟨bs, 6, none⟩ = some (.bool false) ∧ w'.frozen? ⟨bs, 6, none⟩ = false ∧ w'.cell? ⟨bs, 7, none⟩ = some (.bool false) ∧ w'.frozen? ⟨bs, 7, none⟩ = false ∧ w'.cell? ⟨bs, 8, none⟩ = some (.bool false) ∧ w'.frozen? ⟨bs, 8, none⟩ = false ∧ w'.cell? ⟨bs, 9, none⟩ = some (.bool false) ∧ w'.frozen? ⟨bs, 9, none⟩ = false ∧ w.heap.size ≤ bs ∧ w.heap.size < bs) (by kernel_rfl) (by kernel_rfl) (by kernel_rfl) (by kernel_rfl) (by kernel_rfl) ?_ (fun W w1 hSw hb => ⟨kc hb hSw.1, kc hb hSw.2.1, kb hSw.2.2 hb⟩) (fun bs W w1 hEw hb => ⟨kc hb hEw.1, kfz hb (klt hEw.1) hEw.2.1, kc hb hEw.2.2.1, kfz hb (klt hEw.2.2.1) hEw.2.2.2.1, kc hb hEw.2.2.2.2.1, kfz hb (klt hEw.2.2.2.2.1) hEw.2.2.2.2.2.1, kc hb hEw.2.2.2.2.2.2.1, kfz hb (klt hEw.2.2.2.2.2.2.1) hEw.2.2.2.2.2.2.2.1, kc hb hEw.2.2.2.2.2.2.2.2.1, kfz hb (klt hEw.2.2.2.2.2.2.2.2.1) hEw.2.2.2.2.2.2.2.2.2.1, kc hb hEw.2.2.2.2.2.2.2.2.2.2.1, kfz hb (klt hEw.2.2.2.2.2.2.2.2.2.2.1) hEw.2.2.2.2.2.2.2.2.2.2.2.1, kc hb hEw.2.2.2.2.2.2.2.2.2.2.2.2.1, kfz hb (klt hEw.2.2.2.2.2.2.2.2.2.2.2.2.1) hEw.2.2.2.2.2.2.2.2.2.2.2.2.2.1, kc hb hEw.2.2.2.2.2.2.2.2.2.2.2.2.2.2.1, kfz hb (klt hEw.2.2.2.2.2.2.2.2.2.2.2.2.2.2.1) hEw.2.2.2.2.2.2.2.2.2.2.2.2.2.2.2.1, kc hb hEw.2.2.2.2.2.2.2.2.2.2.2.2.2.2.2.2.1, kfz hb (klt hEw.2.2.2.2.2.2.2.2.2.2.2.2.2.2.2.2.1) hEw.2.2.2.2.2.2.2.2.2.2.2.2.2.2.2.2.2.1, kc hb hEw.2.2.2.2.2.2.2.2.2.2.2.2.2.2.2.2.2.2.1, kfz hb (klt hEw.2.2.2.2.2.2.2.2.2.2.2.2.2.2.2.2.2.2.1) hEw.2.2.2.2.2.2.2.2.2.2.2.2.2.2.2.2.2.2.2.1, hEw.2.2.2.2.2.2.2.2.2.2.2.2.2.2.2.2.2.2.2.2⟩) ?_ ?_ ?_
  · intro a W; show (execOp _ _).run _ _ = _; first | rfl | kernel_rfl
  · intro W hSw
    have hzW := (hSw.2.2).size
    have hkW0 := klt (hSw.1)
    refine ⟨?_, ?_, ?_, ?_, ?_, ?_, ?_, ?_, ?_, ?_, ?_, ?_, ?_, ?_, ?_, ?_, ?_, ?_, ?_, ?_, ?_, ?_⟩ <;> first | (go_simp; done) | omega | (dsimp only; omega)
  · (try dsimp only)
    refine ⟨?_, ?_, ?_⟩ <;> first | (go_simp; done) | (simp [*]; done) | go_grown
  (try simp only [List.append_eq, List.cons_append, List.nil_append, List.toList_toArray, List.take_succ_cons, List.take_zero, List.drop_succ_cons, List.drop_zero])
  repeat (first
    | (refine PlanA.skip (by decide) ?_)
    | (refine PlanA.val (v := ?_) (by decide) ?_ ?_ ?_; rotate_left; (· rfl); (· (intro W hSw; (try dsimp only at hSw); go_simp; all_goals (first | (with_reducible rfl) | (constructor <;> (with_reducible rfl))))); (try simp only [Act.put, List.setIfInBounds_toArray, List.set_cons_zero, List.set_cons_succ]))
    | (refine PlanA.no (by decide) ?_ ?_; (· rfl); (try simp only [Act.put, List.setIfInBounds_toArray, List.set_cons_zero, List.set_cons_succ]))
    | (refine PlanA.call (v := ?_) (f := ?_) (args := ?_) (by decide) ?_ ?_ ?_ ?_; rotate_left 3; (· rfl); (· (intro W hSw; (try dsimp only at hSw); go_simp; all_goals (first | (with_reducible rfl) | (constructor <;> (with_reducible rfl))))); (· (intro W hSw; (try dsimp only at hSw); first | (go_at_call 25; ((with_reducible refine (ofB_c (u8 x) x rfl _).mono ?_); rintro _ wz ⟨rfl, hb⟩; (refine ⟨?_, hb⟩; with_reducible rfl))) | (go_at_call 25; ((with_reducible refine (ofB_c (u8 y) y rfl _).mono ?_); rintro _ wz ⟨rfl, hb⟩; (refine ⟨?_, hb⟩; with_reducible rfl))) | (go_at_call 12; ((with_reducible refine (HS.out _).mono ?_); rintro _ wz ⟨rfl, hb⟩; (refine ⟨?_, hb⟩; with_reducible rfl))))); (try simp only [Act.put, List.setIfInBounds_toArray, List.set_cons_zero, List.set_cons_succ])))
  refine PlanA.done ?_
  intro bs w1 T E
  (try dsimp only at T E)
  (try simp only [Act.put, List.setIfInBounds_toArray, List.set_cons_zero, List.set_cons_succ])
  obtain ⟨hci_0, hci_1, hB⟩ := T
  obtain ⟨hs_0, fs_0, hs_1, fs_1, hs_2, fs_2, hs_3, fs_3, hs_4, fs_4, hs_5, fs_5, hs_6, fs_6, hs_7, fs_7, hs_8, fs_8, hs_9, fs_9, hg_bs, hq_bs_ci⟩ := E
  have hr_bs_ci : ¬ w.heap.size = bs := by omega
  have hs_bs_ci : ¬ bs = w.heap.size := by omega
  have hsz := hB.size
  have hlci := klt hci_0
  have hls := klt hs_0
  have hnci0 : ¬ (w.heap.size = w1.heap.size) := by omega
  have hnci1 : ¬ (w.heap.size = w1.heap.size + 1) := by omega
  have hkci1 : w.heap.size < w1.heap.size + 1 := by omega
  have hnci2 : ¬ (w.heap.size = w1.heap.size + 1 + 1) := by omega
  have hkci2 : w.heap.size < w1.heap.size + 1 + 1 := by omega
  have hns0 : ¬ (bs = w1.heap.size) := by omega
  have hns1 : ¬ (bs = w1.heap.size + 1) := by omega
  have hks1 : bs < w1.heap.size + 1 := by omega
  have hns2 : ¬ (bs = w1.heap.size + 1 + 1) := by omega
  have hks2 : bs < w1.heap.size + 1 + 1 := by omega
  go_wp2_with fail
  refine wp_region_planA 10 9 9 #[.int .u8 0, .int .u8 0, .bool false, .bool false, .bool false, .bool false, .bool false, .bool false, .bool false, .bool false] 30 (fun w' => w'.cell? ⟨w.heap.size, 0, none⟩ = some (.bool true) ∧ w'.cell? ⟨w.heap.size, 1, none⟩ = some (.bool false) ∧ w'.cell? ⟨bs, 0, none⟩ = some (B8 S) ∧ w'.cell? ⟨bs, 1, none⟩ = some (B8 0#8) ∧ w'.cell? ⟨bs, 2, none⟩ = some (.bool (decide (128 ≤ u8 S))) ∧ w'.cell? ⟨bs, 3, none⟩ = some (.bool false) ∧ w'.cell? ⟨bs, 4, none⟩ = some (.bool V) ∧ w'.cell? ⟨bs, 5, none⟩ = some (.bool false) ∧ w'.cell? ⟨bs, 6, none⟩ = some (.bool (S == 0#8)) ∧ w'.cell? ⟨bs, 7, none⟩ = some (.bool false) ∧ w'.cell? ⟨bs, 8, none⟩ = some (.bool true) ∧ w'.cell? ⟨bs, 9, none⟩ = some (.bool false) ∧ Below w.heap.size w w') (fun bt w' => w'.cell? ⟨bt, 0, none⟩ = some (.int .u8 0) ∧ w'.frozen? ⟨bt, 0, none⟩ = false ∧ w'.cell? ⟨bt, 1, none⟩ = some (.int .u8 0) ∧ w'.frozen? ⟨bt, 1, none⟩ = false ∧ w'.cell? ⟨bt, 2, none⟩ = some (.bool false) ∧ w'.frozen? ⟨bt, 2, none⟩ = false ∧ w'.cell? ⟨bt, 3, none⟩ = some (.bool false) ∧ w'.frozen? ⟨bt, 3, none⟩ = false ∧ w'.cell? ⟨bt, 4, none⟩ = some (.bool false) ∧ w'.frozen? ⟨bt, 4, none⟩ = false ∧ w'.cell? ⟨bt, 5, none⟩ = some (.bool false) ∧ w'.frozen? ⟨bt, 5, none⟩ = false ∧ w'.cell? ⟨bt, 6, none⟩ = some (.bool false) ∧ w'.frozen? ⟨bt, 6, none⟩ = false ∧ w'.cell? ⟨bt, 7, none⟩ = some (.bool false) ∧ w'.frozen? ⟨bt, 7, none⟩ = false ∧ w'.cell? ⟨bt, 8, none⟩ = some (.bool false) ∧ w'.frozen? ⟨bt, 8, none⟩ = false ∧ w'.cell? ⟨bt, 9, none⟩ = some (.bool false) ∧ w'.frozen? ⟨bt, 9, none⟩ = false ∧ w.heap.size ≤ bt ∧ w.heap.size < bt ∧ bs < bt) (by kernel_rfl) (by kernel_rfl) (by kernel_rfl) (by kernel_rfl) (by kernel_rfl) ?_ (fun W w1 hSw hb => ⟨kc hb hSw.1, kc hb hSw.2.1, kc hb hSw.2.2.1, kc hb hSw.2.2.2.1, kc hb hSw.2.2.2.2.1, kc hb hSw.2.2.2.2.2.1, kc hb hSw.2.2.2.2.2.2.1, kc hb hSw.2.2.2.2.2.2.2.1, kc hb hSw.2.2.2.2.2.2.2.2.1, kc hb hSw.2.2.2.2.2.2.2.2.2.1, kc hb hSw.2.2.2.2.2.2.2.2.2.2.1, kc hb hSw.2.2.2.2.2.2.2.2.2.2.2.1, kb hSw.2.2.2.2.2.2.2.2.2.2.2.2 hb⟩) (fun bt W w1 hEw hb => ⟨kc hb hEw.1, kfz hb (klt hEw.1) hEw.2.1, kc hb hEw.2.2.1, kfz hb (klt hEw.2.2.1) hEw.2.2.2.1, kc hb hEw.2.2.2.2.1, kfz hb (klt hEw.2.2.2.2.1) hEw.2.2.2.2.2.1, kc hb hEw.2.2.2.2.2.2.1, kfz hb (klt hEw.2.2.2.2.2.2.1) hEw.2.2.2.2.2.2.2.1, kc hb hEw.2.2.2.2.2.2.2.2.1, kfz hb (klt hEw.2.2.2.2.2.2.2.2.1) hEw.2.2.2.2.2.2.2.2.2.1, kc hb hEw.2.2.2.2.2.2.2.2.2.2.1, kfz hb (klt hEw.2.2.2.2.2.2.2.2.2.2.1) hEw.2.2.2.2.2.2.2.2.2.2.2.1, kc hb hEw.2.2.2.2.2.2.2.2.2.2.2.2.1, kfz hb (klt hEw.2.2.2.2.2.2.2.2.2.2.2.2.1) hEw.2.2.2.2.2.2.2.2.2.2.2.2.2.1, kc hb hEw.2.2.2.2.2.2.2.2.2.2.2.2.2.2.1, kfz hb (klt hEw.2.2.2.2.2.2.2.2.2.2.2.2.2.2.1) hEw.2.2.2.2.2.2.2.2.2.2.2.2.2.2.2.1, kc hb hEw.2.2.2.2.2.2.2.2.2.2.2.2.2.2.2.2.1, kfz hb (klt hEw.2.2.2.2.2.2.2.2.2.2.2.2.2.2.2.2.1) hEw.2.2.2.2.2.2.2.2.2.2.2.2.2.2.2.2.2.1, kc hb hEw.2.2.2.2.2.2.2.2.2.2.2.2.2.2.2.2.2.2.1, kfz hb (klt hEw.2.2.2.2.2.2.2.2.2.2.2.2.2.2.2.2.2.2.1) hEw.2.2.2.2.2.2.2.2.2.2.2.2.2.2.2.2.2.2.2.1, hEw.2.2.2.2.2.2.2.2.2.2.2.2.2.2.2.2.2.2.2.2⟩) ?_ ?_ ?_
  · intro a W; show (execOp _ _).run _ _ = _; first | rfl | kernel_rfl
  · intro W hSw
    have hzW := (hSw.2.2.2.2.2.2.2.2.2.2.2.2).size
    have hkW0 := klt (hSw.1)
    have hkW2 := klt (hSw.2.2.1)
    refine ⟨?_, ?_, ?_, ?_, ?_, ?_, ?_, ?_, ?_, ?_, ?_, ?_, ?_, ?_, ?_, ?_, ?_, ?_, ?_, ?_, ?_, ?_, ?_⟩ <;> first | (go_simp; done) | omega | (dsimp only; omega)
  · (try dsimp only)
    refine ⟨?_, ?_, ?_, ?_, ?_, ?_, ?_, ?_, ?_, ?_, ?_, ?_, ?_⟩ <;> first | (go_simp; done) | (simp [*]; done) | go_grown
  (try simp only [List.append_eq, List.cons_append, List.nil_append, List.toList_toArray, List.take_succ_cons, List.take_zero, List.drop_succ_cons, List.drop_zero])
  repeat (first
    | (refine PlanA.skip (by decide) ?_)
    | (refine PlanA.val (v := ?_) (by decide) ?_ ?_ ?_; rotate_left; (· rfl); (· (intro W hSw; (try dsimp only at hSw); go_simp; all_goals (first | (with_reducible rfl) | (constructor <;> (with_reducible rfl))))); (try simp only [Act.put, List.setIfInBounds_toArray, List.set_cons_zero, List.set_cons_succ]))
    | (refine PlanA.no (by decide) ?_ ?_; (· rfl); (try simp only [Act.put, List.setIfInBounds_toArray, List.set_cons_zero, List.set_cons_succ]))
    | (refine PlanA.call (v := ?_) (f := ?_) (args := ?_) (by decide) ?_ ?_ ?_ ?_; rotate_left 3; (· rfl); (· (intro W hSw; (try dsimp only at hSw); go_simp; all_goals (first | (with_reducible rfl) | (constructor <;> (with_reducible rfl))))); (· (intro W hSw; (try dsimp only at hSw); first | (go_at_call 25; ((with_reducible refine (ofB_c (u8 x) x rfl _).mono ?_); rintro _ wz ⟨rfl, hb⟩; (refine ⟨?_, hb⟩; with_reducible rfl))) | (go_at_call 25; ((with_reducible refine (ofB_c (u8 y) y rfl _).mono ?_); rintro _ wz ⟨rfl, hb⟩; (refine ⟨?_, hb⟩; with_reducible rfl))) | (go_at_call 12; ((with_reducible refine (HT.out _).mono ?_); rintro _ wz ⟨rfl, hb⟩; (refine ⟨?_, hb⟩; with_reducible rfl))))); (try simp only [Act.put, List.setIfInBounds_toArray, List.set_cons_zero, List.set_cons_succ])))
  refine PlanA.done ?_
  intro bt w2 T E
  (try dsimp only at T E)
  (try simp only [Act.put, List.setIfInBounds_toArray, List.set_cons_zero, List.set_cons_succ])
  clear hci_0 hci_1 hs_0 fs_0 hs_1 fs_1 hs_2 fs_2 hs_3 fs_3 hs_4 fs_4 hs_5 fs_5 hs_6 fs_6 hs_7 fs_7 hs_8 fs_8 hs_9 fs_9 hB hsz hlci hls hnci0 hnci1 hkci1 hnci2 hkci2 hns0 hns1 hks1 hns2 hks2
  obtain ⟨hci_0, hci_1, hsv_0, hsv_1, hsv_2, hsv_3, hsv_4, hsv_5, hsv_6, hsv_7, hsv_8, hsv_9, hB⟩ := T
  obtain ⟨ht_0, ft_0, ht_1, ft_1, ht_2, ft_2, ht_3, ft_3, ht_4, ft_4, ht_5, ft_5, ht_6, ft_6, ht_7, ft_7, ht_8, ft_8, ht_9, ft_9, hg_bt, hq_bt_ci, hq_bt_sv⟩ := E
  have hr_bt_ci : ¬ w.heap.size = bt := by omega
  have hs_bt_ci : ¬ bt = w.heap.size := by omega
  have hr_bt_sv : ¬ bs = bt := by omega
  have hs_bt_sv : ¬ bt = bs := by omega
  have hsz := hB.size
  have hlci := klt hci_0
  have hlsv := klt hsv_0
  have hlt := klt ht_0
  have hnci0 : ¬ (w.heap.size = w2.heap.size) := by omega
  have hnci1 : ¬ (w.heap.size = w2.heap.size + 1) := by omega
  have hkci1 : w.heap.size < w2.heap.size + 1 := by omega
  have hnci2 : ¬ (w.heap.size = w2.heap.size + 1 + 1) := by omega
  have hkci2 : w.heap.size < w2.heap.size + 1 + 1 := by omega
  have hnsv0 : ¬ (bs = w2.heap.size) := by omega
  have hnsv1 : ¬ (bs = w2.heap.size + 1) := by omega
  have hksv1 : bs < w2.heap.size + 1 := by omega
  have hnsv2 : ¬ (bs = w2.heap.size + 1 + 1) := by omega
  have hksv2 : bs < w2.heap.size + 1 + 1 := by omega
  have hnt0 : ¬ (bt = w2.heap.size) := by omega
  have hnt1 : ¬ (bt = w2.heap.size + 1) := by omega
  have hkt1 : bt < w2.heap.size + 1 := by omega
  have hnt2 : ¬ (bt = w2.heap.size + 1 + 1) := by omega
  have hkt2 : bt < w2.heap.size + 1 + 1 := by omega
  go_wp2_with fail
  refine wp_region_planA 11 10 12 #[.int .u8 0, .int .u8 0, .bool false, .bool false, .bool false, .bool false, .bool false, .bool false, .bool false, .bool false] 30 (fun w' => w'.cell? ⟨bs, 0, none⟩ = some (B8 S) ∧ w'.cell? ⟨bs, 1, none⟩ = some (B8 0#8) ∧ w'.cell? ⟨bs, 2, none⟩ = some (.bool (decide (128 ≤ u8 S))) ∧ w'.cell? ⟨bs, 3, none⟩ = some (.bool false) ∧ w'.cell? ⟨bs, 4, none⟩ = some (.bool V) ∧ w'.cell? ⟨bs, 5, none⟩ = some (.bool false) ∧ w'.cell? ⟨bs, 6, none⟩ = some (.bool (S == 0#8)) ∧ w'.cell? ⟨bs, 7, none⟩ = some (.bool false) ∧ w'.cell? ⟨bs, 8, none⟩ = some (.bool true) ∧ w'.cell? ⟨bs, 9, none⟩ = some (.bool false) ∧ w'.cell? ⟨bt, 0, none⟩ = some (B8 S) ∧ w'.cell? ⟨bt, 1, none⟩ = some (B8 0#8) ∧ w'.cell? ⟨bt, 2, none⟩ = some (.bool (decide (128 ≤ u8 S))) ∧ w'.cell? ⟨bt, 3, none⟩ = some (.bool false) ∧ w'.cell? ⟨bt, 4, none⟩ = some (.bool V) ∧ w'.cell? ⟨bt, 5, none⟩ = some (.bool false) ∧ w'.cell? ⟨bt, 6, none⟩ = some (.bool (S == 0#8)) ∧ w'.cell? ⟨bt, 7, none⟩ = some (.bool false) ∧ w'.cell? ⟨bt, 8, none⟩ = some (.bool true) ∧ w'.cell? ⟨bt, 9, none⟩ = some (.bool false) ∧ Below w.heap.size w w') (fun bd w' => w'.cell? ⟨bd, 0, none⟩ = some (.int .u8 0) ∧ w'.frozen? ⟨bd, 0, none⟩ = false ∧ w'.cell? ⟨bd, 1, none⟩ = some (.int .u8 0) ∧ w'.frozen? ⟨bd, 1, none⟩ = false ∧ w'.cell? ⟨bd, 2, none⟩ = some (.bool false) ∧ w'.frozen? ⟨bd, 2, none⟩ = false ∧ w'.cell? ⟨bd, 3, none⟩ = some (.bool false) ∧ w'.frozen? ⟨bd, 3, none⟩ = false ∧ w'.cell? ⟨bd, 4, none⟩ = some (.bool false) ∧ w'.frozen? ⟨bd, 4, none⟩ = false ∧ w'.cell? ⟨bd, 5, none⟩ = some (.bool false) ∧ w'.frozen? ⟨bd, 5, none⟩ = false ∧ w'.cell? ⟨bd, 6, none⟩ = some (.bool false) ∧ w'.frozen? ⟨bd, 6, none⟩ = false ∧ w'.cell? ⟨bd, 7, none⟩ = some (.bool false) ∧ w'.frozen? ⟨bd, 7, none⟩ = false ∧ w'.cell? ⟨bd, 8, none⟩ = some (.bool false) ∧ w'.frozen? ⟨bd, 8, none⟩ = false ∧ w'.cell? ⟨bd, 9, none⟩ = some (.bool false) ∧ w'.frozen? ⟨bd, 9, none⟩ = false ∧ w.heap.size ≤ bd ∧ bs < bd ∧ bt < bd) (by kernel_rfl) (by kernel_rfl) (by kernel_rfl) (by kernel_rfl) (by kernel_rfl) ?_ (fun W w1 hSw hb => ⟨kc hb hSw.1, kc hb hSw.2.1, kc hb hSw.2.2.1, kc hb hSw.2.2.2.1, kc hb hSw.2.2.2.2.1, kc hb hSw.2.2.2.2.2.1, kc hb hSw.2.2.2.2.2.2.1, kc hb hSw.2.2.2.2.2.2.2.1, kc hb hSw.2.2.2.2.2.2.2.2.1, kc hb hSw.2.2.2.2.2.2.2.2.2.1, kc hb hSw.2.2.2.2.2.2.2.2.2.2.1, kc hb hSw.2.2.2.2.2.2.2.2.2.2.2.1, kc hb hSw.2.2.2.2.2.2.2.2.2.2.2.2.1, kc hb hSw.2.2.2.2.2.2.2.2.2.2.2.2.2.1, kc hb hSw.2.2.2.2.2.2.2.2.2.2.2.2.2.2.1, kc hb hSw.2.2.2.2.2.2.2.2.2.2.2.2.2.2.2.1, kc hb hSw.2.2.2.2.2.2.2.2.2.2.2.2.2.2.2.2.1, kc hb hSw.2.2.2.2.2.2.2.2.2.2.2.2.2.2.2.2.2.1, kc hb hSw.2.2.2.2.2.2.2.2.2.2.2.2.2.2.2.2.2.2.1, kc hb hSw.2.2.2.2.2.2.2.2.2.2.2.2.2.2.2.2.2.2.2.1, kb hSw.2.2.2.2.2.2.2.2.2.2.2.2.2.2.2.2.2.2.2.2 hb⟩) (fun bd W w1 hEw hb => ⟨kc hb hEw.1, kfz hb (klt hEw.1) hEw.2.1, kc hb hEw.2.2.1, kfz hb (klt hEw.2.2.1) hEw.2.2.2.1, kc hb hEw.2.2.2.2.1, kfz hb (klt hEw.2.2.2.2.1) hEw.2.2.2.2.2.1, kc hb hEw.2.2.2.2.2.2.1, kfz hb (klt hEw.2.2.2.2.2.2.1) hEw.2.2.2.2.2.2.2.1, kc hb hEw.2.2.2.2.2.2.2.2.1, kfz hb (klt hEw.2.2.2.2.2.2.2.2.1) hEw.2.2.2.2.2.2.2.2.2.1, kc hb hEw.2.2.2.2.2.2.2.2.2.2.1, kfz hb (klt hEw.2.2.2.2.2.2.2.2.2.2.1) hEw.2.2.2.2.2.2.2.2.2.2.2.1, kc hb hEw.2.2.2.2.2.2.2.2.2.2.2.2.1, kfz hb (klt hEw.2.2.2.2.2.2.2.2.2.2.2.2.1) hEw.2.2.2.2.2.2.2.2.2.2.2.2.2.1, kc hb hEw.2.2.2.2.2.2.2.2.2.2.2.2.2.2.1, kfz hb (klt hEw.2.2.2.2.2.2.2.2.2.2.2.2.2.2.1) hEw.2.2.2.2.2.2.2.2.2.2.2.2.2.2.2.1, kc hb hEw.2.2.2.2.2.2.2.2.2.2.2.2.2.2.2.2.1, kfz hb (klt hEw.2.2.2.2.2.2.2.2.2.2.2.2.2.2.2.2.1) hEw.2.2.2.2.2.2.2.2.2.2.2.2.2.2.2.2.2.1, kc hb hEw.2.2.2.2.2.2.2.2.2.2.2.2.2.2.2.2.2.2.1, kfz hb (klt hEw.2.2.2.2.2.2.2.2.2.2.2.2.2.2.2.2.2.2.1) hEw.2.2.2.2.2.2.2.2.2.2.2.2.2.2.2.2.2.2.2.1, hEw.2.2.2.2.2.2.2.2.2.2.2.2.2.2.2.2.2.2.2.2⟩) ?_ ?_ ?_
  · intro a W; show (execOp _ _).run _ _ = _; first | rfl | kernel_rfl
  · intro W hSw
    have hzW := (hSw.2.2.2.2.2.2.2.2.2.2.2.2.2.2.2.2.2.2.2.2).size
    have hkW0 := klt (hSw.1)
    have hkW10 := klt (hSw.2.2.2.2.2.2.2.2.2.2.1)
    refine ⟨?_, ?_, ?_, ?_, ?_, ?_, ?_, ?_, ?_, ?_, ?_, ?_, ?_, ?_, ?_, ?_, ?_, ?_, ?_, ?_, ?_, ?_, ?_⟩ <;> first | (go_simp; done) | omega | (dsimp only; omega)
  · (try dsimp only)
    refine ⟨?_, ?_, ?_, ?_, ?_, ?_, ?_, ?_, ?_, ?_, ?_, ?_, ?_, ?_, ?_, ?_, ?_, ?_, ?_, ?_, ?_⟩ <;> first | (go_simp; done) | (simp [*]; done) | go_grown
  (try simp only [List.append_eq, List.cons_append, List.nil_append, List.toList_toArray, List.take_succ_cons, List.take_zero, List.drop_succ_cons, List.drop_zero])
  repeat (first
    | (refine PlanA.skip (by decide) ?_)
    | (refine PlanA.val (v := ?_) (by decide) ?_ ?_ ?_; rotate_left; (· rfl); (· (intro W hSw; (try dsimp only at hSw); go_simp; all_goals (first | (with_reducible rfl) | (constructor <;> (with_reducible rfl))))); (try simp only [Act.put, List.setIfInBounds_toArray, List.set_cons_zero, List.set_cons_succ]))
    | (refine PlanA.no (by decide) ?_ ?_; (· rfl); (try simp only [Act.put, List.setIfInBounds_toArray, List.set_cons_zero, List.set_cons_succ]))
    | (refine PlanA.call (v := ?_) (f := ?_) (args := ?_) (by decide) ?_ ?_ ?_ ?_; rotate_left 3; (· rfl); (· (intro W hSw; (try dsimp only at hSw); go_simp; all_goals (first | (with_reducible rfl) | (constructor <;> (with_reducible rfl))))); (· (intro W hSw; (try dsimp only at hSw); first | (go_at_call 25; ((with_reducible refine (ofB_c (u8 y) y rfl _).mono ?_); rintro _ wz ⟨rfl, hb⟩; (refine ⟨?_, hb⟩; with_reducible rfl))) | (go_at_call 15; ((with_reducible refine (HD.out _).mono ?_); rintro _ wz ⟨rfl, hb⟩; (refine ⟨?_, hb⟩; with_reducible rfl))))); (try simp only [Act.put, List.setIfInBounds_toArray, List.set_cons_zero, List.set_cons_succ])))
  refine PlanA.done ?_
  intro bd w3 T E
  (try dsimp only at T E)
  (try simp only [Act.put, List.setIfInBounds_toArray, List.set_cons_zero, List.set_cons_succ])
  clear hci_0 hci_1 hsv_0 hsv_1 hsv_2 hsv_3 hsv_4 hsv_5 hsv_6 hsv_7 hsv_8 hsv_9 ht_0 ft_0 ht_1 ft_1 ht_2 ft_2 ht_3 ft_3 ht_4 ft_4 ht_5 ft_5 ht_6 ft_6 ht_7 ft_7 ht_8 ft_8 ht_9 ft_9 hB hsz hlci hlsv hlt hnci0 hnci1 hkci1 hnci2 hkci2 hnsv0 hnsv1 hksv1 hnsv2 hksv2 hnt0 hnt1 hkt1 hnt2 hkt2
  obtain ⟨hsv_0, hsv_1, hsv_2, hsv_3, hsv_4, hsv_5, hsv_6, hsv_7, hsv_8, hsv_9, htv_0, htv_1, htv_2, htv_3, htv_4, htv_5, htv_6, htv_7, htv_8, htv_9, hB⟩ := T
  obtain ⟨hd_0, fd_0, hd_1, fd_1, hd_2, fd_2, hd_3, fd_3, hd_4, fd_4, hd_5, fd_5, hd_6, fd_6, hd_7, fd_7, hd_8, fd_8, hd_9, fd_9, hg_bd, hq_bd_sv, hq_bd_tv⟩ := E
  have hr_bd_sv : ¬ bs = bd := by omega
  have hs_bd_sv : ¬ bd = bs := by omega
  have hr_bd_tv : ¬ bt = bd := by omega
  have hs_bd_tv : ¬ bd = bt := by omega
  have hsz := hB.size
  have hlsv := klt hsv_0
  have hltv := klt htv_0
  have hld := klt hd_0
  have hnsv0 : ¬ (bs = w3.heap.size) := by omega
  have hnsv1 : ¬ (bs = w3.heap.size + 1) := by omega
  have hksv1 : bs < w3.heap.size + 1 := by omega
  have hnsv2 : ¬ (bs = w3.heap.size + 1 + 1) := by omega
  have hksv2 : bs < w3.heap.size + 1 + 1 := by omega
  have hntv0 : ¬ (bt = w3.heap.size) := by omega
  have hntv1 : ¬ (bt = w3.heap.size + 1) := by omega
  have hktv1 : bt < w3.heap.size + 1 := by omega
  have hntv2 : ¬ (bt = w3.heap.size + 1 + 1) := by omega
  have hktv2 : bt < w3.heap.size + 1 + 1 := by omega
  have hnd0 : ¬ (bd = w3.heap.size) := by omega
  have hnd1 : ¬ (bd = w3.heap.size + 1) := by omega
  have hkd1 : bd < w3.heap.size + 1 := by omega
  have hnd2 : ¬ (bd = w3.heap.size + 1 + 1) := by omega
  have hkd2 : bd < w3.heap.size + 1 + 1 := by omega
  go_wp2_with fail
  refine wp_region_plan (fun w' => w'.cell? ⟨bs, 0, none⟩ = some (B8 S) ∧ w'.cell? ⟨bs, 1, none⟩ = some (B8 0#8) ∧ w'.cell? ⟨bs, 2, none⟩ = some (.bool (decide (128 ≤ u8 S))) ∧ w'.cell? ⟨bs, 3, none⟩ = some (.bool false) ∧ w'.cell? ⟨bs, 4, none⟩ = some (.bool V) ∧ w'.cell? ⟨bs, 5, none⟩ = some (.bool false) ∧ w'.cell? ⟨bs, 6, none⟩ = some (.bool (S == 0#8)) ∧ w'.cell? ⟨bs, 7, none⟩ = some (.bool false) ∧ w'.cell? ⟨bs, 8, none⟩ = some (.bool true) ∧ w'.cell? ⟨bs, 9, none⟩ = some (.bool false) ∧ w'.cell? ⟨bt, 0, none⟩ = some (B8 S) ∧ w'.cell? ⟨bt, 1, none⟩ = some (B8 0#8) ∧ w'.cell? ⟨bt, 2, none⟩ = some (.bool (decide (128 ≤ u8 S))) ∧ w'.cell? ⟨bt, 3, none⟩ = some (.bool false) ∧ w'.cell? ⟨bt, 4, none⟩ = some (.bool V) ∧ w'.cell? ⟨bt, 5, none⟩ = some (.bool false) ∧ w'.cell? ⟨bt, 6, none⟩ = some (.bool (S == 0#8)) ∧ w'.cell? ⟨bt, 7, none⟩ = some (.bool false) ∧ w'.cell? ⟨bt, 8, none⟩ = some (.bool true) ∧ w'.cell? ⟨bt, 9, none⟩ = some (.bool false) ∧ w'.cell? ⟨bd, 0, none⟩ = some (B8 x) ∧ w'.cell? ⟨bd, 1, none⟩ = some (B8 0#8) ∧ w'.cell? ⟨bd, 2, none⟩ = some (.bool n') ∧ w'.cell? ⟨bd, 3, none⟩ = some (.bool false) ∧ w'.cell? ⟨bd, 4, none⟩ = some (.bool v') ∧ w'.cell? ⟨bd, 5, none⟩ = some (.bool false) ∧ w'.cell? ⟨bd, 6, none⟩ = some (.bool z') ∧ w'.cell? ⟨bd, 7, none⟩ = some (.bool false) ∧ w'.cell? ⟨bd, 8, none⟩ = some (.bool c') ∧ w'.cell? ⟨bd, 9, none⟩ = some (.bool false) ∧ Below w.heap.size w w') (by kernel_rfl) (by kernel_rfl) (by kernel_rfl) ?_ ?_
  · (try dsimp only)
    refine ⟨?_, ?_, ?_, ?_, ?_, ?_, ?_, ?_, ?_, ?_, ?_, ?_, ?_, ?_, ?_, ?_, ?_, ?_, ?_, ?_, ?_, ?_, ?_, ?_, ?_, ?_, ?_, ?_, ?_, ?_, ?_⟩ <;> first | (go_simp; done) | (simp [*]; done) | go_grown
  repeat (first
    | (refine Plan.val (v := ?_) ?_ ?_ ?_; rotate_left; (· rfl); (· (intro W hSw; (try dsimp only at hSw); go_simp; all_goals (first | (with_reducible rfl) | (constructor <;> (with_reducible rfl))))); (try simp only [Act.put, List.setIfInBounds_toArray, List.set_cons_zero, List.set_cons_succ]))
    | (refine Plan.no ?_ ?_; (· rfl); (try simp only [Act.put, List.setIfInBounds_toArray, List.set_cons_zero, List.set_cons_succ]))
    | (refine Plan.call (v := ?_) (f := ?_) (args := ?_) ?_ ?_ ?_ ?_; rotate_left 3; (· rfl); (· (intro W hSw; (try dsimp only at hSw); go_simp; all_goals (first | (with_reducible rfl) | (constructor <;> (with_reducible rfl))))); (· (intro W hSw; (try dsimp only at hSw); first | (go_at_call 25; ((with_reducible refine (ofB_c (u8 x) x rfl _).mono ?_); rintro _ wz ⟨rfl, hb⟩; (refine ⟨?_, ?_⟩; (· with_reducible rfl); exact ⟨kc hb hSw.1, kc hb hSw.2.1, kc hb hSw.2.2.1, kc hb hSw.2.2.2.1, kc hb hSw.2.2.2.2.1, kc hb hSw.2.2.2.2.2.1, kc hb hSw.2.2.2.2.2.2.1, kc hb hSw.2.2.2.2.2.2.2.1, kc hb hSw.2.2.2.2.2.2.2.2.1, kc hb hSw.2.2.2.2.2.2.2.2.2.1, kc hb hSw.2.2.2.2.2.2.2.2.2.2.1, kc hb hSw.2.2.2.2.2.2.2.2.2.2.2.1, kc hb hSw.2.2.2.2.2.2.2.2.2.2.2.2.1, kc hb hSw.2.2.2.2.2.2.2.2.2.2.2.2.2.1, kc hb hSw.2.2.2.2.2.2.2.2.2.2.2.2.2.2.1, kc hb hSw.2.2.2.2.2.2.2.2.2.2.2.2.2.2.2.1, kc hb hSw.2.2.2.2.2.2.2.2.2.2.2.2.2.2.2.2.1, kc hb hSw.2.2.2.2.2.2.2.2.2.2.2.2.2.2.2.2.2.1, kc hb hSw.2.2.2.2.2.2.2.2.2.2.2.2.2.2.2.2.2.2.1, kc hb hSw.2.2.2.2.2.2.2.2.2.2.2.2.2.2.2.2.2.2.2.1, kc hb hSw.2.2.2.2.2.2.2.2.2.2.2.2.2.2.2.2.2.2.2.2.1, kc hb hSw.2.2.2.2.2.2.2.2.2.2.2.2.2.2.2.2.2.2.2.2.2.1, kc hb hSw.2.2.2.2.2.2.2.2.2.2.2.2.2.2.2.2.2.2.2.2.2.2.1, kc hb hSw.2.2.2.2.2.2.2.2.2.2.2.2.2.2.2.2.2.2.2.2.2.2.2.1, kc hb hSw.2.2.2.2.2.2.2.2.2.2.2.2.2.2.2.2.2.2.2.2.2.2.2.2.1, kc hb hSw.2.2.2.2.2.2.2.2.2.2.2.2.2.2.2.2.2.2.2.2.2.2.2.2.2.1, kc hb hSw.2.2.2.2.2.2.2.2.2.2.2.2.2.2.2.2.2.2.2.2.2.2.2.2.2.2.1, kc hb hSw.2.2.2.2.2.2.2.2.2.2.2.2.2.2.2.2.2.2.2.2.2.2.2.2.2.2.2.1, kc hb hSw.2.2.2.2.2.2.2.2.2.2.2.2.2.2.2.2.2.2.2.2.2.2.2.2.2.2.2.2.1, kc hb hSw.2.2.2.2.2.2.2.2.2.2.2.2.2.2.2.2.2.2.2.2.2.2.2.2.2.2.2.2.2.1, kb hSw.2.2.2.2.2.2.2.2.2.2.2.2.2.2.2.2.2.2.2.2.2.2.2.2.2.2.2.2.2.2 hb⟩))) | (go_at_call 14; ((with_reducible refine (awake_c _).mono ?_); rintro _ wz ⟨rfl, hb⟩; (refine ⟨?_, ?_⟩; (· with_reducible rfl); exact ⟨kc hb hSw.1, kc hb hSw.2.1, kc hb hSw.2.2.1, kc hb hSw.2.2.2.1, kc hb hSw.2.2.2.2.1, kc hb hSw.2.2.2.2.2.1, kc hb hSw.2.2.2.2.2.2.1, kc hb hSw.2.2.2.2.2.2.2.1, kc hb hSw.2.2.2.2.2.2.2.2.1, kc hb hSw.2.2.2.2.2.2.2.2.2.1, kc hb hSw.2.2.2.2.2.2.2.2.2.2.1, kc hb hSw.2.2.2.2.2.2.2.2.2.2.2.1, kc hb hSw.2.2.2.2.2.2.2.2.2.2.2.2.1, kc hb hSw.2.2.2.2.2.2.2.2.2.2.2.2.2.1, kc hb hSw.2.2.2.2.2.2.2.2.2.2.2.2.2.2.1, kc hb hSw.2.2.2.2.2.2.2.2.2.2.2.2.2.2.2.1, kc hb hSw.2.2.2.2.2.2.2.2.2.2.2.2.2.2.2.2.1, kc hb hSw.2.2.2.2.2.2.2.2.2.2.2.2.2.2.2.2.2.1, kc hb hSw.2.2.2.2.2.2.2.2.2.2.2.2.2.2.2.2.2.2.1, kc hb hSw.2.2.2.2.2.2.2.2.2.2.2.2.2.2.2.2.2.2.2.1, kc hb hSw.2.2.2.2.2.2.2.2.2.2.2.2.2.2.2.2.2.2.2.2.1, kc hb hSw.2.2.2.2.2.2.2.2.2.2.2.2.2.2.2.2.2.2.2.2.2.1, kc hb hSw.2.2.2.2.2.2.2.2.2.2.2.2.2.2.2.2.2.2.2.2.2.2.1, kc hb hSw.2.2.2.2.2.2.2.2.2.2.2.2.2.2.2.2.2.2.2.2.2.2.2.1, kc hb hSw.2.2.2.2.2.2.2.2.2.2.2.2.2.2.2.2.2.2.2.2.2.2.2.2.1, kc hb hSw.2.2.2.2.2.2.2.2.2.2.2.2.2.2.2.2.2.2.2.2.2.2.2.2.2.1, kc hb hSw.2.2.2.2.2.2.2.2.2.2.2.2.2.2.2.2.2.2.2.2.2.2.2.2.2.2.1, kc hb hSw.2.2.2.2.2.2.2.2.2.2.2.2.2.2.2.2.2.2.2.2.2.2.2.2.2.2.2.1, kc hb hSw.2.2.2.2.2.2.2.2.2.2.2.2.2.2.2.2.2.2.2.2.2.2.2.2.2.2.2.2.1, kc hb hSw.2.2.2.2.2.2.2.2.2.2.2.2.2.2.2.2.2.2.2.2.2.2.2.2.2.2.2.2.2.1, kb hSw.2.2.2.2.2.2.2.2.2.2.2.2.2.2.2.2.2.2.2.2.2.2.2.2.2.2.2.2.2.2 hb⟩))))); (try simp only [Act.put, List.setIfInBounds_toArray, List.set_cons_zero, List.set_cons_succ])))
  refine Plan.done ?_
  intro wz T
  (try dsimp only at T)
  have hBe := T.2.2.2.2.2.2.2.2.2.2.2.2.2.2.2.2.2.2.2.2.2.2.2.2.2.2.2.2.2.2
  go_wp2
  go_ret
  exact ⟨rfl, hBe⟩

theorem back_walk (x y : BitVec 8) (c : Bool) (w : World) : Calls Try.prog 7 #[B8 x, B8 y, .bool c] w (LawEnd w) := by
  have hS : ∀ C, (addV x y c).c = C → ∀ w, Calls Try.prog 12 #[TB x 0#8, TB y 0#8, TBit c false, TBit false false] w fun e w' => e = .returned (.agg #[B8 (addV x y c).a, B8 0#8, .bool (decide (128 ≤ u8 (addV x y c).a)), .bool false, .bool (addV x y c).v, .bool false, .bool ((addV x y c).a == 0#8), .bool false, .bool C, .bool false]) ∧ Below w.heap.size w w' := by
    intro C hC w
    subst hC
    have e : decide (128 ≤ u8 (addV x y c).a) = (addV x y c).n := nb_u8' _
    rw [e]
    exact add_p x y c w
  have hT : ∀ C, (addV x y c).c = C → ∀ w, Calls Try.prog 12 #[TB y 0#8, TB x 0#8, TBit c false, TBit false false] w fun e w' => e = .returned (.agg #[B8 (addV x y c).a, B8 0#8, .bool (decide (128 ≤ u8 (addV x y c).a)), .bool false, .bool (addV x y c).v, .bool false, .bool ((addV x y c).a == 0#8), .bool false, .bool C, .bool false]) ∧ Below w.heap.size w w' := by
    intro C hC w
    subst hC
    have e : decide (128 ≤ u8 (addV x y c).a) = (addV x y c).n := nb_u8' _
    rw [e]
    have := add_p y x c w
    rw [add_com] at this
    exact this
  have hD : ∀ w, Calls Try.prog 15 #[TB (addV x y c).a 0#8, TB y 0#8, TBit (!c) false, TBit false false] w fun e w' => e = .returned (.agg #[B8 x, B8 0#8, .bool (addV (addV x y c).a (~~~y) (!c)).n, .bool false, .bool (addV (addV x y c).a (~~~y) (!c)).v, .bool false, .bool (addV (addV x y c).a (~~~y) (!c)).z, .bool false, .bool (addV (addV x y c).a (~~~y) (!c)).c, .bool false]) ∧ Below w.heap.size w w' := by
    intro w
    have := sub_p (addV x y c).a y (!c) w
    have e : VP (addV (addV x y c).a (~~~y) (!c)) = .agg #[B8 x, B8 0#8, .bool (addV (addV x y c).a (~~~y) (!c)).n, .bool false, .bool (addV (addV x y c).a (~~~y) (!c)).v, .bool false, .bool (addV (addV x y c).a (~~~y) (!c)).z, .bool false, .bool (addV (addV x y c).a (~~~y) (!c)).c, .bool false] := by
      unfold VP
      rw [back_eq]
    rw [e] at this
    exact this
  have hE := carry_eq x y c
  cases c <;> cases hC : (addV x y _).c <;> rw [hC] at hE
  · exact back_false_false x y _ _ _ _ _ _ (hS _ hC) (hT _ hC) hD (by simpa [cnt] using hE) w
  · exact back_false_true x y _ _ _ _ _ _ (hS _ hC) (hT _ hC) hD (by simpa [cnt] using hE) w
  · exact back_true_false x y _ _ _ _ _ _ (hS _ hC) (hT _ hC) hD (by simpa [cnt] using hE) w
  · exact back_true_true x y _ _ _ _ _ _ (hS _ hC) (hT _ hC) hD (by simpa [cnt] using hE) w
end Go.Proofs.Ytdmgdldadpkhgaa
