/-
  What the document's answer of layer 1 comes to: the byte of eight bits.
-/
import Derived.Test.YtdpoonmgailonaaDoorRef2
set_option linter.unusedSimpArgs false
set_option linter.unusedVariables false
namespace Go.Proofs.YtdpoonmgailonaaDoor
open Go.RowKit

structure MadeMid (f g : Nat → Bool) (w : World) (wr : World) : Prop where
  val : ∀ j, j < 8 → wr.cell? ⟨w.heap.size, j * 2, none⟩ = some (.bool (f j))
  tnt : ∀ j, j < 8 → wr.cell? ⟨w.heap.size, j * 2 + 1, none⟩ = some (.bool (g j))
  r0 : wr.cell? ⟨w.heap.size + 1, 0, none⟩ = some (.int .u8 0)
  r1 : wr.cell? ⟨w.heap.size + 1, 1, none⟩ = some (.int .u8 0)
  f0 : wr.frozen? ⟨w.heap.size + 1, 0, none⟩ = false
  f1 : wr.frozen? ⟨w.heap.size + 1, 1, none⟩ = false
  old : Below w.heap.size w wr

set_option maxRecDepth 100000 in
set_option maxHeartbeats 1000000 in
theorem made_r (f g : Nat → Bool) (w : World) : Calls Tryd.prog 28 #[.agg #[.bool (f 0), .bool (g 0), .bool (f 1), .bool (g 1), .bool (f 2), .bool (g 2), .bool (f 3), .bool (g 3), .bool (f 4), .bool (g 4), .bool (f 5), .bool (g 5), .bool (f 6), .bool (g 6), .bool (f 7), .bool (g 7)]] w fun e w' => e = .returned (TB (mk8 f) (mk8 g)) ∧ Below w.heap.size w w' := by
  go_enter Tryd.func28, Tryd.ntmps28
  go_wp2_with fail
  go_loopw [3, 4, 5] (fun v t i wr => ∃ k : Nat, k ≤ 8 ∧ i = .int .i64 k ∧ v = .int .i64 (sumP f k) ∧ t = .int .i64 (sumP g k) ∧ MadeMid f g w wr) (fun _ _ i _ => 8 - (intOf i).toNat)
  case atStart =>
    refine ⟨0, by omega, rfl, rfl, rfl, ⟨fun j hj => ?_, fun j hj => ?_, by go_simp, by go_simp, by go_simp, by go_simp, by go_grown⟩⟩
    · match j, hj with
      | 0, _ | 1, _ | 2, _ | 3, _ | 4, _ | 5, _ | 6, _ | 7, _ => go_simp
    · match j, hj with
      | 0, _ | 1, _ | 2, _ | 3, _ | 4, _ | 5, _ | 6, _ | 7, _ => go_simp
  case round =>
    obtain ⟨k, hk, rfl, rfl, rfl, hrel⟩ := hrel
    by_cases hlt : k < 8
    · have b1 := sumP_lo f k
      have b2 := sumP_hi f k (by omega)
      have b3 := sumP_lo g k
      have b4 := sumP_hi g k (by omega)
      have b5 := pw_lo k
      have b6 := pw_hi k (by omega)
      have EF : Hid (sumP f (k + 1) = sumP f k + if f k then pw k else 0) := Lib.hid rfl
      have EG : Hid (sumP g (k + 1) = sumP g k + if g k then pw k else 0) := Lib.hid rfl
      have v1 := hrel.val k hlt
      have t1 := hrel.tnt k hlt
      generalize sumP f k = S at *
      generalize sumP g k = T at *
      cases hf : f k <;> cases hg : g k
      all_goals
        rw [hf] at v1
        rw [hg] at t1
        have HF := Lib.hid hf
        have HG := Lib.hid hg
        clear hf hg
        go_wp2_with (go_at_call 33; ((with_reducible refine (power_c k (by omega) _).mono ?_); rintro _ _ ⟨rfl, rfl⟩))
        go_roundw
        case rel => exact ⟨k + 1, by omega, by go_num, by rw [EF.out, HF.out]; simp, by rw [EG.out, HG.out]; simp, hrel⟩
        case measure => simp [intOf]; omega
    · have hk8 : k = 8 := by omega
      subst hk8
      rw [mk8_sum, mk8_sum]
      have b1 := u8_lo (mk8 f)
      have b2 := u8_hi (mk8 f)
      have b3 := u8_lo (mk8 g)
      have b4 := u8_hi (mk8 g)
      obtain ⟨_, _, r0, r1, f0, f1, hB⟩ := hrel
      go_wp2
      refine bodyPost_ret (v := TB _ _) (by simp [results, Tryd.results28, go_sem, r0, r1] <;> first | done | rfl | exact dec_eq Iff.rfl) rfl ⟨rfl, by go_grown⟩

/-- One of eight. -/
def sel (b0 b1 b2 b3 b4 b5 b6 b7 : Bool) : Nat → Bool
  | 0 => b0 | 1 => b1 | 2 => b2 | 3 => b3 | 4 => b4 | 5 => b5 | 6 => b6 | 7 => b7 | _ => false
theorem made_l (b0 b1 b2 b3 b4 b5 b6 b7 c0 c1 c2 c3 c4 c5 c6 c7 : Bool) (w : World) : Calls Tryd.prog 28 #[.agg #[.bool b0, .bool c0, .bool b1, .bool c1, .bool b2, .bool c2, .bool b3, .bool c3, .bool b4, .bool c4, .bool b5, .bool c5, .bool b6, .bool c6, .bool b7, .bool c7]] w fun e w' => e = .returned (TB (mk8 (sel b0 b1 b2 b3 b4 b5 b6 b7)) (mk8 (sel c0 c1 c2 c3 c4 c5 c6 c7))) ∧ Below w.heap.size w w' :=
  made_r (sel b0 b1 b2 b3 b4 b5 b6 b7) (sel c0 c1 c2 c3 c4 c5 c6 c7) w
theorem sel_eq {b0 b1 b2 b3 b4 b5 b6 b7 : Bool} {x : BitVec 8} (h0 : b0 = x.getLsbD 0) (h1 : b1 = x.getLsbD 1) (h2 : b2 = x.getLsbD 2) (h3 : b3 = x.getLsbD 3) (h4 : b4 = x.getLsbD 4) (h5 : b5 = x.getLsbD 5) (h6 : b6 = x.getLsbD 6) (h7 : b7 = x.getLsbD 7) :
    mk8 (sel b0 b1 b2 b3 b4 b5 b6 b7) = x := mk8_eq fun i hi => by
  match i, hi with
  | 0, _ => exact h0
  | 1, _ => exact h1
  | 2, _ => exact h2
  | 3, _ => exact h3
  | 4, _ => exact h4
  | 5, _ => exact h5
  | 6, _ => exact h6
  | 7, _ => exact h7
theorem sel_left (x : BitVec 8) (v : Bool) : mk8 (sel v (bitAt x 0) (bitAt x 1) (bitAt x 2) (bitAt x 3) (bitAt x 4) (bitAt x 5) (bitAt x 6)) = setB (x <<< 1) 0 v := by
  refine sel_eq ?_ ?_ ?_ ?_ ?_ ?_ ?_ ?_ <;> rw [setB_bit _ _ _ _ (by omega) (by omega)] <;> simp [bitAt, BitVec.getLsbD_shiftLeft]
theorem sel_right (x : BitVec 8) (v : Bool) : mk8 (sel (bitAt x 1) (bitAt x 2) (bitAt x 3) (bitAt x 4) (bitAt x 5) (bitAt x 6) (bitAt x 7) v) = setB (x >>> 1) 7 v := by
  refine sel_eq ?_ ?_ ?_ ?_ ?_ ?_ ?_ ?_ <;> rw [setB_bit _ _ _ _ (by omega) (by omega)] <;> simp [bitAt, BitVec.getLsbD_ushiftRight]
theorem sel_self (x : BitVec 8) : mk8 (sel (bitAt x 0) (bitAt x 1) (bitAt x 2) (bitAt x 3) (bitAt x 4) (bitAt x 5) (bitAt x 6) (bitAt x 7)) = x := by
  refine sel_eq ?_ ?_ ?_ ?_ ?_ ?_ ?_ ?_ <;> rfl
end Go.Proofs.YtdpoonmgailonaaDoor
