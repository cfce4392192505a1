/-
  What the document's answer of layer 1 comes to: its loops over the eight bits.
-/
import Derived.Test.YtbbiegbfoimcaaaRef
import Derived.Lib.Hide
set_option linter.unusedSimpArgs false
set_option linter.unusedVariables false
namespace Go.Proofs.Ytbbiegbfoimcaaa
open Go.RowKit

/-- Whether two bytes may be the same at a place. -/
def samP (x t y s : BitVec 8) (i : Nat) : Bool := m0 x t i == m0 y s i && m1 x t i == m1 y s i
theorem samP_all (x t y s : BitVec 8) : allTo (samP x t y s) 8 = sameB x t y s := same_may x t y s
theorem samP_not (x t y s : BitVec 8) (k : Nat) (hk : k < 8) (h : samP x t y s k = false) : sameB x t y s = false := by
  rw [← samP_all]
  cases e : allTo (samP x t y s) 8
  · rfl
  · rw [allTo_iff] at e
    rw [e k hk] at h
    exact h

theorem neq_b2 (w : World) (a b c d : Bool) : (binOp .neq 47 (.agg #[.bool a, .bool b]) (.agg #[.bool c, .bool d])).run Try.prog w = .ok (.bool (!(a == c && b == d))) w := by
  cases a <;> cases b <;> cases c <;> cases d <;> kernel_rfl
set_option maxHeartbeats 1000000 in
theorem same_r (x t y s : BitVec 8) (w : World) : Calls Try.prog 30 #[TB x t, TB y s] w fun e w' => e = .returned (.bool (sameB x t y s)) ∧ Below w.heap.size w w' := by
  have hne := neq_b2
  go_enter Try.func30, Try.ntmps30
  go_wp2_with fail
  go_loopw [5] (fun i wr => ∃ k : Nat, k ≤ 8 ∧ i = .int .i64 k ∧ allTo (samP x t y s) k = true ∧ wr.cell? ⟨w.heap.size, 0, none⟩ = some (B8 x) ∧ wr.cell? ⟨w.heap.size, 1, none⟩ = some (B8 t) ∧ wr.cell? ⟨w.heap.size + 1, 0, none⟩ = some (B8 y) ∧ wr.cell? ⟨w.heap.size + 1, 1, none⟩ = some (B8 s) ∧ Below w.heap.size w wr) (fun i _ => 8 - (intOf i).toNat)
  case atStart => exact ⟨0, by omega, rfl, rfl, by go_simp, by go_simp, by go_simp, by go_simp, by go_grown⟩
  case round =>
    obtain ⟨k, hk, rfl, hall, hrel⟩ := hrel
    obtain ⟨ha_0, ha_1, hb_0, hb_1, hB⟩ := hrel
    have hsz := hB.size
    have hla := klt ha_0
    have hlb := klt hb_0
    have hna0 : ¬ (w.heap.size = wr.heap.size) := by omega
    have hna1 : ¬ (w.heap.size = wr.heap.size + 1) := by omega
    have hka1 : w.heap.size < wr.heap.size + 1 := by omega
    have hna2 : ¬ (w.heap.size = wr.heap.size + 1 + 1) := by omega
    have hka2 : w.heap.size < wr.heap.size + 1 + 1 := by omega
    have hnb0 : ¬ (w.heap.size + 1 = wr.heap.size) := by omega
    have hkb1 : w.heap.size < wr.heap.size := by omega
    by_cases hlt : k < 8
    · cases hp : samP x t y s k
      · have hf := samP_not x t y s k hlt hp
        have hq : (m0 x t k == m0 y s k && m1 x t k == m1 y s k) = false := hp
        clear hp hall
        go_wp2_with fail
        refine wp_region_plan (fun w' => w'.cell? ⟨w.heap.size, 0, none⟩ = some (B8 x) ∧ w'.cell? ⟨w.heap.size, 1, none⟩ = some (B8 t) ∧ w'.cell? ⟨w.heap.size + 1, 0, none⟩ = some (B8 y) ∧ w'.cell? ⟨w.heap.size + 1, 1, none⟩ = some (B8 s) ∧ Below w.heap.size w w') (by kernel_rfl) (by kernel_rfl) (by kernel_rfl) ?_ ?_
        · (try dsimp only)
          refine ⟨?_, ?_, ?_, ?_, ?_⟩ <;> first | (go_simp; done) | (simp [*]; done) | go_grown
        repeat (first
          | (refine Plan.val (v := ?_) ?_ ?_ ?_; rotate_left; (· rfl); (· (intro W hSw; (try dsimp only at hSw); go_simp; all_goals (first | (with_reducible rfl) | (constructor <;> (with_reducible rfl))))); (try simp only [Act.put, List.setIfInBounds_toArray, List.set_cons_zero, List.set_cons_succ]))
          | (refine Plan.no ?_ ?_; (· rfl); (try simp only [Act.put, List.setIfInBounds_toArray, List.set_cons_zero, List.set_cons_succ]))
          | (refine Plan.call (v := ?_) (f := ?_) (args := ?_) ?_ ?_ ?_ ?_; rotate_left 3; (· rfl); (· (intro W hSw; (try dsimp only at hSw); go_simp; all_goals (first | (with_reducible rfl) | (constructor <;> (with_reducible rfl))))); (· (intro W hSw; (try dsimp only at hSw); first | (go_at_call 37; ((with_reducible refine (may_c _ _ k hlt _).mono ?_); rintro _ wz ⟨rfl, hb⟩; (refine ⟨?_, ?_⟩; (· with_reducible rfl); exact ⟨kc hb hSw.1, kc hb hSw.2.1, kc hb hSw.2.2.1, kc hb hSw.2.2.2.1, kb hSw.2.2.2.2 hb⟩))))); (try simp only [Act.put, List.setIfInBounds_toArray, List.set_cons_zero, List.set_cons_succ])))
        refine Plan.done ?_
        intro wz T
        (try dsimp only at T)
        have hBe := T.2.2.2.2
        go_wp2
        go_ret
        exact ⟨ret_bool hf.symm, hBe⟩
      · have hall' : allTo (samP x t y s) (k + 1) = true := by show (allTo (samP x t y s) k && samP x t y s k) = true; rw [hall, hp]; rfl
        have hq : (m0 x t k == m0 y s k && m1 x t k == m1 y s k) = true := hp
        rw [Bool.and_eq_true] at hq
        obtain ⟨hq0, hq1⟩ := hq
        have HA := Lib.hid hall'
        clear hp hall hall'
        go_wp2_with fail
        refine wp_region_plan (fun w' => w'.cell? ⟨w.heap.size, 0, none⟩ = some (B8 x) ∧ w'.cell? ⟨w.heap.size, 1, none⟩ = some (B8 t) ∧ w'.cell? ⟨w.heap.size + 1, 0, none⟩ = some (B8 y) ∧ w'.cell? ⟨w.heap.size + 1, 1, none⟩ = some (B8 s) ∧ Below w.heap.size w w') (by kernel_rfl) (by kernel_rfl) (by kernel_rfl) ?_ ?_
        · (try dsimp only)
          refine ⟨?_, ?_, ?_, ?_, ?_⟩ <;> first | (go_simp; done) | (simp [*]; done) | go_grown
        repeat (first
          | (refine Plan.val (v := ?_) ?_ ?_ ?_; rotate_left; (· rfl); (· (intro W hSw; (try dsimp only at hSw); go_simp; all_goals (first | (with_reducible rfl) | (constructor <;> (with_reducible rfl))))); (try simp only [Act.put, List.setIfInBounds_toArray, List.set_cons_zero, List.set_cons_succ]))
          | (refine Plan.no ?_ ?_; (· rfl); (try simp only [Act.put, List.setIfInBounds_toArray, List.set_cons_zero, List.set_cons_succ]))
          | (refine Plan.call (v := ?_) (f := ?_) (args := ?_) ?_ ?_ ?_ ?_; rotate_left 3; (· rfl); (· (intro W hSw; (try dsimp only at hSw); go_simp; all_goals (first | (with_reducible rfl) | (constructor <;> (with_reducible rfl))))); (· (intro W hSw; (try dsimp only at hSw); first | (go_at_call 37; ((with_reducible refine (may_c _ _ k hlt _).mono ?_); rintro _ wz ⟨rfl, hb⟩; (refine ⟨?_, ?_⟩; (· with_reducible rfl); exact ⟨kc hb hSw.1, kc hb hSw.2.1, kc hb hSw.2.2.1, kc hb hSw.2.2.2.1, kb hSw.2.2.2.2 hb⟩))))); (try simp only [Act.put, List.setIfInBounds_toArray, List.set_cons_zero, List.set_cons_succ])))
        refine Plan.done ?_
        intro w1 T
        (try dsimp only at T)
        clear ha_0 ha_1 hb_0 hb_1 hB hsz hla hlb hna0 hna1 hka1 hna2 hka2 hnb0 hkb1
        obtain ⟨ha_0, ha_1, hb_0, hb_1, hB⟩ := T
        have hsz := hB.size
        have hla := klt ha_0
        have hlb := klt hb_0
        have hna0 : ¬ (w.heap.size = w1.heap.size) := by omega
        have hna1 : ¬ (w.heap.size = w1.heap.size + 1) := by omega
        have hka1 : w.heap.size < w1.heap.size + 1 := by omega
        have hna2 : ¬ (w.heap.size = w1.heap.size + 1 + 1) := by omega
        have hka2 : w.heap.size < w1.heap.size + 1 + 1 := by omega
        have hnb0 : ¬ (w.heap.size + 1 = w1.heap.size) := by omega
        have hkb1 : w.heap.size < w1.heap.size := by omega
        go_wp2
        go_roundw
        case rel => exact ⟨k + 1, by omega, by go_num, HA.out, ⟨ha_0, ha_1, hb_0, hb_1, hB⟩⟩
        case measure => simp [intOf]; omega
    · have hk8 : k = 8 := by omega
      subst hk8
      rw [samP_all] at hall
      have HA := Lib.hid hall
      clear hall
      go_wp2
      go_ret
      exact ⟨ret_bool HA.out.symm, hB⟩

set_option maxHeartbeats 1000000 in
theorem spread_r (t : BitVec 8) (w : World) : Calls Try.prog 27 #[.int .i64 (u8 t)] w fun e w' => e = .returned (.int .i64 (u8 (spr t))) ∧ w = w' := by
  go_enter Try.func27, Try.ntmps27
  go_wp2_with fail
  go_loop [3, 4, 5] (fun o n i => ∃ k : Nat, k ≤ 8 ∧ i = .int .i64 k ∧ n = .bool (anyTo (bitAt t) k) ∧ o = .int .i64 (sumP (fun k => anyTo (bitAt t) (k + 1)) k)) (fun _ _ i => 8 - (intOf i).toNat)
  case atStart => exact ⟨0, by omega, rfl, rfl, rfl⟩
  case round =>
    obtain ⟨k, hk, rfl, rfl, rfl⟩ := hrel
    by_cases hlt : k < 8
    · have b1 := sumP_lo (fun k => anyTo (bitAt t) (k + 1)) k
      have b2 := sumP_hi (fun k => anyTo (bitAt t) (k + 1)) k (by omega)
      have b3 := pw_lo k
      have b4 := pw_hi k (by omega)
      have HS : Hid (sumP (fun k => anyTo (bitAt t) (k + 1)) (k + 1) = sumP (fun k => anyTo (bitAt t) (k + 1)) k + if anyTo (bitAt t) (k + 1) then pw k else 0) := Lib.hid rfl
      have HT : Hid (anyTo (bitAt t) (k + 1) = (anyTo (bitAt t) k || bitAt t k)) := Lib.hid rfl
      generalize sumP (fun k => anyTo (bitAt t) (k + 1)) k = S at *
      cases ha : anyTo (bitAt t) k <;> cases hb : bitAt t k
      all_goals
        have HA := Lib.hid ha
        clear ha
        go_wp2_with (first
          | (go_at_call 35; ((with_reducible refine (has_c _ k hlt _).mono ?_); rintro _ _ ⟨rfl, rfl⟩))
          | (go_at_call 36; ((with_reducible refine (power_c k (by omega) _).mono ?_); rintro _ _ ⟨rfl, rfl⟩)))
        go_round
        case rel => exact ⟨k + 1, by omega, by go_num, by rw [HT.out, HA.out]; try rw [hb]; rfl, by rw [HS.out, HT.out, HA.out]; try rw [hb]; simp⟩
        case measure => simp [intOf]; omega
    · have hk8 : k = 8 := by omega
      subst hk8
      have HS := Lib.hid (spr_sum t)
      generalize sumP (fun k => anyTo (bitAt t) (k + 1)) 8 = S at *
      go_wp2
      go_ret
      exact ⟨ret_i64 HS.out, rfl⟩
end Go.Proofs.Ytbbiegbfoimcaaa
