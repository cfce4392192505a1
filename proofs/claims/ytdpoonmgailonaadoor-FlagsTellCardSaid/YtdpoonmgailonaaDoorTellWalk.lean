/-
  FlagsTell returns true: the walk.
-/
import Derived.Test.YtdpoonmgailonaaDoorBits2
import Derived.Test.YtdpoonmgailonaaDoorAwake3
set_option linter.unusedSimpArgs false
set_option linter.unusedVariables false
namespace Go.Proofs.YtdpoonmgailonaaDoor
open Go.RowKit

set_option maxRecDepth 100000 in
set_option maxHeartbeats 4000000 in
theorem tell_walk' (x t v V T : BitVec 8)
    (hC : ∀ w, Calls Tryd.prog 12 #[TB x t, TB v 0#8] w fun e w' => e = .returned (TB V T) ∧ Below w.heap.size w w')
    (hV1 : getI V 1 = (v == 0#8)) (hV7 : getI V 7 = decide (128 ≤ u8 v)) (hT1 : getI T 1 = false) (hT7 : getI T 7 = false)
    (hk : ∀ k : Nat, k < 8 → k ≠ 1 → k ≠ 7 → getI V k = getI x k ∧ getI T k = getI t k) (w : World) :
    Calls Tryd.prog 6 #[TB x t, B8 v] w (LawEnd w) := by
  have v1 := u8_lo v
  have v2 := u8_hi v
  have z0 := u8_beq0
  have i8 := i64_u8
  have HC := Lib.hid hC
  have HK := Lib.hid hk
  clear hC hk
  have C1 : ∀ w, Calls Tryd.prog 8 #[TB V T, .int .i64 1] w fun e w' => e = .returned (TBit (v == 0#8) false) ∧ Below w.heap.size w w' := fun w => by
    have := get_i V T 1 w
    rw [hV1, hT1] at this
    exact this
  have C7 : ∀ w, Calls Tryd.prog 8 #[TB V T, .int .i64 7] w fun e w' => e = .returned (TBit (decide (128 ≤ u8 v)) false) ∧ Below w.heap.size w w' := fun w => by
    have := get_i V T 7 w
    rw [hV7, hT7] at this
    exact this
  have H1 := Lib.hid C1
  have H7 := Lib.hid C7
  clear C1 C7 hV1 hV7 hT1 hT7
  go_enter Tryd.func6, Tryd.ntmps6
  go_wp2_with fail
  refine wp_region_planA 6 5 5 #[.int .u8 0, .int .u8 0] 23 (fun w' => w'.cell? ⟨w.heap.size, 0, none⟩ = some (B8 x) ∧ w'.cell? ⟨w.heap.size, 1, none⟩ = some (B8 t) ∧ Below w.heap.size w w') (fun bq w' => w'.cell? ⟨bq, 0, none⟩ = some (.int .u8 0) ∧ w'.frozen? ⟨bq, 0, none⟩ = false ∧ w'.cell? ⟨bq, 1, none⟩ = some (.int .u8 0) ∧ w'.frozen? ⟨bq, 1, none⟩ = false ∧ w.heap.size ≤ bq ∧ w.heap.size < bq) (by kernel_rfl) (by kernel_rfl) (by kernel_rfl) (by kernel_rfl) (by kernel_rfl) ?_ (fun W w1 hSw hb => ⟨kc hb hSw.1, kc hb hSw.2.1, kb hSw.2.2 hb⟩) (fun bq W w1 hEw hb => ⟨kc hb hEw.1, kfz hb (klt hEw.1) hEw.2.1, kc hb hEw.2.2.1, kfz hb (klt hEw.2.2.1) hEw.2.2.2.1, hEw.2.2.2.2⟩) ?_ ?_ ?_
  · intro a W; show (execOp _ _).run _ _ = _; first | rfl | kernel_rfl
  · intro W hSw
    have hzW := (hSw.2.2).size
    have hkW0 := klt (hSw.1)
    refine ⟨?_, ?_, ?_, ?_, ?_, ?_⟩ <;> first | (go_simp; done) | omega | (dsimp only; omega)
  · (try dsimp only)
    refine ⟨?_, ?_, ?_⟩ <;> first | (go_simp; done) | (simp [*]; done) | go_grown
  (try simp only [List.append_eq, List.cons_append, List.nil_append, List.toList_toArray, List.take_succ_cons, List.take_zero, List.drop_succ_cons, List.drop_zero])
  repeat (first
    | (refine PlanA.skip (by decide) ?_)
    | (refine PlanA.val (v := ?_) (by decide) ?_ ?_ ?_; rotate_left; (· rfl); (· (intro W hSw; (try dsimp only at hSw); go_simp; all_goals (first | (with_reducible rfl) | (constructor <;> (with_reducible rfl))))); (try simp only [Act.put, List.setIfInBounds_toArray, List.set_cons_zero, List.set_cons_succ]))
    | (refine PlanA.no (by decide) ?_ ?_; (· rfl); (try simp only [Act.put, List.setIfInBounds_toArray, List.set_cons_zero, List.set_cons_succ]))
    | (refine PlanA.call (v := ?_) (f := ?_) (args := ?_) (by decide) ?_ ?_ ?_ ?_; rotate_left 3; (· rfl); (· (intro W hSw; (try dsimp only at hSw); go_simp; all_goals (first | (with_reducible rfl) | (constructor <;> (with_reducible rfl))))); (· (intro W hSw; (try dsimp only at hSw); first | (go_at_call 23; ((with_reducible refine (ofB_c (u8 v) v rfl _).mono ?_); rintro _ wz ⟨rfl, hb⟩; (refine ⟨?_, hb⟩; with_reducible rfl))) | (go_at_call 12; ((with_reducible refine (HC.out _).mono ?_); rintro _ wz ⟨rfl, hb⟩; (refine ⟨?_, hb⟩; with_reducible rfl))))); (try simp only [Act.put, List.setIfInBounds_toArray, List.set_cons_zero, List.set_cons_succ])))
  refine PlanA.done ?_
  intro bq w1 T E
  (try dsimp only at T E)
  (try simp only [Act.put, List.setIfInBounds_toArray, List.set_cons_zero, List.set_cons_succ])
  obtain ⟨hp_0, hp_1, hB⟩ := T
  obtain ⟨hq_0, fq_0, hq_1, fq_1, hg_bq, hq_bq_p⟩ := E
  have hr_bq_p : ¬ w.heap.size = bq := by omega
  have hs_bq_p : ¬ bq = w.heap.size := by omega
  have hsz := hB.size
  have hlp := klt hp_0
  have hlq := klt hq_0
  have hnp0 : ¬ (w.heap.size = w1.heap.size) := by omega
  have hnp1 : ¬ (w.heap.size = w1.heap.size + 1) := by omega
  have hkp1 : w.heap.size < w1.heap.size + 1 := by omega
  have hnp2 : ¬ (w.heap.size = w1.heap.size + 1 + 1) := by omega
  have hkp2 : w.heap.size < w1.heap.size + 1 + 1 := by omega
  have hnq0 : ¬ (bq = w1.heap.size) := by omega
  have hnq1 : ¬ (bq = w1.heap.size + 1) := by omega
  have hkq1 : bq < w1.heap.size + 1 := by omega
  have hnq2 : ¬ (bq = w1.heap.size + 1 + 1) := by omega
  have hkq2 : bq < w1.heap.size + 1 + 1 := by omega
  go_wp2_with fail
  ((with_reducible refine (H1.out _).mono ?_); rintro _ w2 ⟨rfl, hb⟩)
  have T : w2.cell? ⟨w.heap.size, 0, none⟩ = some (B8 x) ∧ w2.cell? ⟨w.heap.size, 1, none⟩ = some (B8 t) ∧ w2.cell? ⟨bq, 0, none⟩ = some (B8 V) ∧ w2.cell? ⟨bq, 1, none⟩ = some (B8 T) := by
      refine ⟨?_, ?_, ?_, ?_⟩ <;> refine kc hb ?_ <;> (go_simp; first | done | rfl)
  have hz := hb.size
  (try simp only [World.size_alloc, World.size_setCell, World.size_drew] at hz)
  have hlp' : w.heap.size < w2.heap.size := by omega
  have hlr' : bq < w2.heap.size := by omega
  have hB' : Below w.heap.size w w2 := by
      refine kb ?_ hb
      go_grown
  clear hp_0 hp_1 hq_0 fq_0 hq_1 fq_1 hB hsz hlp hlq hnp0 hnp1 hkp1 hnp2 hkp2 hnq0 hnq1 hkq1 hnq2 hkq2
  clear hb hz
  obtain ⟨hp_0, hp_1, hr_0, hr_1⟩ := T
  have hlp := hlp'; clear hlp'
  have hlr := hlr'; clear hlr'
  have hnp0 : ¬ (w.heap.size = w2.heap.size) := by omega
  have hnp1 : ¬ (w.heap.size = w2.heap.size + 1) := by omega
  have hkp1 : w.heap.size < w2.heap.size + 1 := by omega
  have hnp2 : ¬ (w.heap.size = w2.heap.size + 1 + 1) := by omega
  have hkp2 : w.heap.size < w2.heap.size + 1 + 1 := by omega
  have hnr0 : ¬ (bq = w2.heap.size) := by omega
  have hnr1 : ¬ (bq = w2.heap.size + 1) := by omega
  have hkr1 : bq < w2.heap.size + 1 := by omega
  have hnr2 : ¬ (bq = w2.heap.size + 1 + 1) := by omega
  have hkr2 : bq < w2.heap.size + 1 + 1 := by omega
  have hB := hB'; clear hB'
  have hsz := hB.size
  go_wp2_with fail
  ((with_reducible refine (H7.out _).mono ?_); rintro _ w3 ⟨rfl, hb⟩)
  have T : w3.cell? ⟨w.heap.size, 0, none⟩ = some (B8 x) ∧ w3.cell? ⟨w.heap.size, 1, none⟩ = some (B8 t) ∧ w3.cell? ⟨bq, 0, none⟩ = some (B8 V) ∧ w3.cell? ⟨bq, 1, none⟩ = some (B8 T) := by
      refine ⟨?_, ?_, ?_, ?_⟩ <;> refine kc hb ?_ <;> (go_simp; first | done | rfl)
  have hz := hb.size
  (try simp only [World.size_alloc, World.size_setCell, World.size_drew] at hz)
  have hlp' : w.heap.size < w3.heap.size := by omega
  have hlr' : bq < w3.heap.size := by omega
  have hB' : Below w.heap.size w w3 := by
      refine kb ?_ hb
      go_grown
  clear hp_0 hp_1 hr_0 hr_1 hlp hlr hnp0 hnp1 hkp1 hnp2 hkp2 hnr0 hnr1 hkr1 hnr2 hkr2 hB hsz
  clear hb hz
  obtain ⟨hp_0, hp_1, hr_0, hr_1⟩ := T
  have hlp := hlp'; clear hlp'
  have hlr := hlr'; clear hlr'
  have hnp0 : ¬ (w.heap.size = w3.heap.size) := by omega
  have hnp1 : ¬ (w.heap.size = w3.heap.size + 1) := by omega
  have hkp1 : w.heap.size < w3.heap.size + 1 := by omega
  have hnp2 : ¬ (w.heap.size = w3.heap.size + 1 + 1) := by omega
  have hkp2 : w.heap.size < w3.heap.size + 1 + 1 := by omega
  have hnr0 : ¬ (bq = w3.heap.size) := by omega
  have hnr1 : ¬ (bq = w3.heap.size + 1) := by omega
  have hkr1 : bq < w3.heap.size + 1 := by omega
  have hnr2 : ¬ (bq = w3.heap.size + 1 + 1) := by omega
  have hkr2 : bq < w3.heap.size + 1 + 1 := by omega
  have hB := hB'; clear hB'
  have hsz := hB.size
  go_wp2_with fail
  go_loopw [6] (fun i wr => ∃ k : Nat, k ≤ 8 ∧ i = .int .i64 k ∧ wr.cell? ⟨w.heap.size, 0, none⟩ = some (B8 x) ∧ wr.cell? ⟨w.heap.size, 1, none⟩ = some (B8 t) ∧ wr.cell? ⟨bq, 0, none⟩ = some (B8 V) ∧ wr.cell? ⟨bq, 1, none⟩ = some (B8 T) ∧ Below w.heap.size w wr) (fun i _ => 8 - (intOf i).toNat)
  case atStart => exact ⟨0, by omega, rfl, hp_0, hp_1, hr_0, hr_1, hB⟩
  case round =>
    obtain ⟨k, hk, rfl, hrel⟩ := hrel
    clear hp_0 hp_1 hr_0 hr_1 hlp hlr hnp0 hnp1 hkp1 hnp2 hkp2 hnr0 hnr1 hkr1 hnr2 hkr2 hB hsz
    obtain ⟨hp_0, hp_1, hr_0, hr_1, hB⟩ := hrel
    have hsz := hB.size
    have hlp := klt hp_0
    have hlr := klt hr_0
    have hnp0 : ¬ (w.heap.size = wr.heap.size) := by omega
    have hnp1 : ¬ (w.heap.size = wr.heap.size + 1) := by omega
    have hkp1 : w.heap.size < wr.heap.size + 1 := by omega
    have hnp2 : ¬ (w.heap.size = wr.heap.size + 1 + 1) := by omega
    have hkp2 : w.heap.size < wr.heap.size + 1 + 1 := by omega
    have hnr0 : ¬ (bq = wr.heap.size) := by omega
    have hnr1 : ¬ (bq = wr.heap.size + 1) := by omega
    have hkr1 : bq < wr.heap.size + 1 := by omega
    have hnr2 : ¬ (bq = wr.heap.size + 1 + 1) := by omega
    have hkr2 : bq < wr.heap.size + 1 + 1 := by omega
    by_cases hlt : k < 8
    · by_cases e1 : k = 1
      · subst e1
        go_wp2_with fail
        refine wp_region_plan (fun w' => w'.cell? ⟨w.heap.size, 0, none⟩ = some (B8 x) ∧ w'.cell? ⟨w.heap.size, 1, none⟩ = some (B8 t) ∧ w'.cell? ⟨bq, 0, none⟩ = some (B8 V) ∧ w'.cell? ⟨bq, 1, none⟩ = some (B8 T) ∧ Below w.heap.size w w') (by kernel_rfl) (by kernel_rfl) (by kernel_rfl) ?_ ?_
        · (try dsimp only)
          refine ⟨?_, ?_, ?_, ?_, ?_⟩ <;> first | (go_simp; done) | (simp [*]; done) | go_grown
        repeat (first
          | (refine Plan.val (v := ?_) ?_ ?_ ?_; rotate_left; (· rfl); (· (intro W hSw; (try dsimp only at hSw); go_simp; all_goals (first | (with_reducible rfl) | (constructor <;> (with_reducible rfl))))); (try simp only [Act.put, List.setIfInBounds_toArray, List.set_cons_zero, List.set_cons_succ]))
          | (refine Plan.no ?_ ?_; (· rfl); (try simp only [Act.put, List.setIfInBounds_toArray, List.set_cons_zero, List.set_cons_succ])))
        refine Plan.done ?_
        intro w4 T
        (try dsimp only at T)
        clear hp_0 hp_1 hr_0 hr_1 hB hsz hlp hlr hnp0 hnp1 hkp1 hnp2 hkp2 hnr0 hnr1 hkr1 hnr2 hkr2
        obtain ⟨hp_0, hp_1, hr_0, hr_1, hB⟩ := T
        have hsz := hB.size
        have hlp := klt hp_0
        have hlr := klt hr_0
        have hnp0 : ¬ (w.heap.size = w4.heap.size) := by omega
        have hnp1 : ¬ (w.heap.size = w4.heap.size + 1) := by omega
        have hkp1 : w.heap.size < w4.heap.size + 1 := by omega
        have hnp2 : ¬ (w.heap.size = w4.heap.size + 1 + 1) := by omega
        have hkp2 : w.heap.size < w4.heap.size + 1 + 1 := by omega
        have hnr0 : ¬ (bq = w4.heap.size) := by omega
        have hnr1 : ¬ (bq = w4.heap.size + 1) := by omega
        have hkr1 : bq < w4.heap.size + 1 := by omega
        have hnr2 : ¬ (bq = w4.heap.size + 1 + 1) := by omega
        have hkr2 : bq < w4.heap.size + 1 + 1 := by omega
        go_wp2
        go_roundw
        case rel => exact ⟨2, by omega, by go_num, hp_0, hp_1, hr_0, hr_1, hB⟩
        case measure => simp [intOf]
      · by_cases e7 : k = 7
        · subst e7
          go_wp2_with fail
          refine wp_region_plan (fun w' => w'.cell? ⟨w.heap.size, 0, none⟩ = some (B8 x) ∧ w'.cell? ⟨w.heap.size, 1, none⟩ = some (B8 t) ∧ w'.cell? ⟨bq, 0, none⟩ = some (B8 V) ∧ w'.cell? ⟨bq, 1, none⟩ = some (B8 T) ∧ Below w.heap.size w w') (by kernel_rfl) (by kernel_rfl) (by kernel_rfl) ?_ ?_
          · (try dsimp only)
            refine ⟨?_, ?_, ?_, ?_, ?_⟩ <;> first | (go_simp; done) | (simp [*]; done) | go_grown
          repeat (first
            | (refine Plan.val (v := ?_) ?_ ?_ ?_; rotate_left; (· rfl); (· (intro W hSw; (try dsimp only at hSw); go_simp; all_goals (first | (with_reducible rfl) | (constructor <;> (with_reducible rfl))))); (try simp only [Act.put, List.setIfInBounds_toArray, List.set_cons_zero, List.set_cons_succ]))
            | (refine Plan.no ?_ ?_; (· rfl); (try simp only [Act.put, List.setIfInBounds_toArray, List.set_cons_zero, List.set_cons_succ])))
          refine Plan.done ?_
          intro w4 T
          (try dsimp only at T)
          clear hp_0 hp_1 hr_0 hr_1 hB hsz hlp hlr hnp0 hnp1 hkp1 hnp2 hkp2 hnr0 hnr1 hkr1 hnr2 hkr2
          obtain ⟨hp_0, hp_1, hr_0, hr_1, hB⟩ := T
          have hsz := hB.size
          have hlp := klt hp_0
          have hlr := klt hr_0
          have hnp0 : ¬ (w.heap.size = w4.heap.size) := by omega
          have hnp1 : ¬ (w.heap.size = w4.heap.size + 1) := by omega
          have hkp1 : w.heap.size < w4.heap.size + 1 := by omega
          have hnp2 : ¬ (w.heap.size = w4.heap.size + 1 + 1) := by omega
          have hkp2 : w.heap.size < w4.heap.size + 1 + 1 := by omega
          have hnr0 : ¬ (bq = w4.heap.size) := by omega
          have hnr1 : ¬ (bq = w4.heap.size + 1) := by omega
          have hkr1 : bq < w4.heap.size + 1 := by omega
          have hnr2 : ¬ (bq = w4.heap.size + 1 + 1) := by omega
          have hkr2 : bq < w4.heap.size + 1 + 1 := by omega
          go_wp2
          go_roundw
          case rel => exact ⟨8, by omega, by go_num, hp_0, hp_1, hr_0, hr_1, hB⟩
          case measure => simp [intOf]
        · have b1 : ((k : Int) == 1) = false := by rw [beq_eq_false_iff_ne]; omega
          have b7 : ((k : Int) == 7) = false := by rw [beq_eq_false_iff_ne]; omega
          have b1' : ((k : Int) != 1) = true := by unfold bne; rw [b1]; rfl
          have b7' : ((k : Int) != 7) = true := by unfold bne; rw [b7]; rfl
          have E := HK.out k hlt e1 e7
          have Hk : ∀ w, Calls Tryd.prog 8 #[TB V T, .int .i64 k] w fun e w' => e = .returned (TBit (getI x k) (getI t k)) ∧ Below w.heap.size w w' := fun w => by
            have := get_i V T k w
            rw [E.1, E.2] at this
            exact this
          clear E
          have HH := Lib.hid Hk
          clear Hk
          go_wp2_with fail
          refine wp_region_plan (fun w' => w'.cell? ⟨w.heap.size, 0, none⟩ = some (B8 x) ∧ w'.cell? ⟨w.heap.size, 1, none⟩ = some (B8 t) ∧ w'.cell? ⟨bq, 0, none⟩ = some (B8 V) ∧ w'.cell? ⟨bq, 1, none⟩ = some (B8 T) ∧ Below w.heap.size w w') (by kernel_rfl) (by kernel_rfl) (by kernel_rfl) ?_ ?_
          · (try dsimp only)
            refine ⟨?_, ?_, ?_, ?_, ?_⟩ <;> first | (go_simp; done) | (simp [*]; done) | go_grown
          repeat (first
            | (refine Plan.val (v := ?_) ?_ ?_ ?_; rotate_left; (· rfl); (· (intro W hSw; (try dsimp only at hSw); go_simp; all_goals (first | (with_reducible rfl) | (constructor <;> (with_reducible rfl))))); (try simp only [Act.put, List.setIfInBounds_toArray, List.set_cons_zero, List.set_cons_succ]))
            | (refine Plan.no ?_ ?_; (· rfl); (try simp only [Act.put, List.setIfInBounds_toArray, List.set_cons_zero, List.set_cons_succ]))
            | (refine Plan.call (v := ?_) (f := ?_) (args := ?_) ?_ ?_ ?_ ?_; rotate_left 3; (· rfl); (· (intro W hSw; (try dsimp only at hSw); go_simp; all_goals (first | (with_reducible rfl) | (constructor <;> (with_reducible rfl))))); (· (intro W hSw; (try dsimp only at hSw); first | (go_at_call 8; ((with_reducible refine (HH.out _).mono ?_); rintro _ wz ⟨rfl, hb⟩; (refine ⟨?_, ?_⟩; (· with_reducible rfl); exact ⟨kc hb hSw.1, kc hb hSw.2.1, kc hb hSw.2.2.1, kc hb hSw.2.2.2.1, kb hSw.2.2.2.2 hb⟩))) | (go_at_call 8; ((with_reducible refine (get_i x t k _).mono ?_); rintro _ wz ⟨rfl, hb⟩; (refine ⟨?_, ?_⟩; (· with_reducible rfl); exact ⟨kc hb hSw.1, kc hb hSw.2.1, kc hb hSw.2.2.1, kc hb hSw.2.2.2.1, kb hSw.2.2.2.2 hb⟩))))); (try simp only [Act.put, List.setIfInBounds_toArray, List.set_cons_zero, List.set_cons_succ])))
          refine Plan.done ?_
          intro w4 T
          (try dsimp only at T)
          clear hp_0 hp_1 hr_0 hr_1 hB hsz hlp hlr hnp0 hnp1 hkp1 hnp2 hkp2 hnr0 hnr1 hkr1 hnr2 hkr2
          obtain ⟨hp_0, hp_1, hr_0, hr_1, hB⟩ := T
          have hsz := hB.size
          have hlp := klt hp_0
          have hlr := klt hr_0
          have hnp0 : ¬ (w.heap.size = w4.heap.size) := by omega
          have hnp1 : ¬ (w.heap.size = w4.heap.size + 1) := by omega
          have hkp1 : w.heap.size < w4.heap.size + 1 := by omega
          have hnp2 : ¬ (w.heap.size = w4.heap.size + 1 + 1) := by omega
          have hkp2 : w.heap.size < w4.heap.size + 1 + 1 := by omega
          have hnr0 : ¬ (bq = w4.heap.size) := by omega
          have hnr1 : ¬ (bq = w4.heap.size + 1) := by omega
          have hkr1 : bq < w4.heap.size + 1 := by omega
          have hnr2 : ¬ (bq = w4.heap.size + 1 + 1) := by omega
          have hkr2 : bq < w4.heap.size + 1 + 1 := by omega
          go_wp2
          go_roundw
          case rel => exact ⟨k + 1, by omega, by go_num, hp_0, hp_1, hr_0, hr_1, hB⟩
          case measure => simp [intOf]; omega
    · have hk8 : k = 8 := by omega
      subst hk8
      go_wp2_with fail
      ((with_reducible refine (awake_c _).mono ?_); rintro _ w5 ⟨rfl, hb⟩)
      have hz := hb.size
      (try simp only [World.size_alloc, World.size_setCell, World.size_drew] at hz)
      have hB' : Below w.heap.size w w5 := by
          refine kb ?_ hb
          go_grown
      clear hp_0 hp_1 hr_0 hr_1 hB hsz hlp hlr hnp0 hnp1 hkp1 hnp2 hkp2 hnr0 hnr1 hkr1 hnr2 hkr2
      clear hb hz
      have hB := hB'; clear hB'
      have hsz := hB.size
      go_wp2
      go_ret
      exact ⟨rfl, hB⟩

theorem tell_walk (x t v : BitVec 8) (w : World) : Calls Tryd.prog 6 #[TB x t, B8 v] w (LawEnd w) :=
  tell_walk' x t v _ _ (fun w => told_c x t v 0#8 w) (told_1 x v) (told_7 x v) (toldT_1 t v) (toldT_7 t v) (fun k hk h1 h7 => ⟨told_k x v k hk h1 h7, toldT_k t v 0#8 k hk h1 h7⟩) w
end Go.Proofs.YtdpoonmgailonaaDoor
