/-
  SumsCompare returns true: the walk.
-/
import Derived.Test.YtdmgdldadpkhgaaRComp
import Derived.Test.YtdmgdldadpkhgaaAwake2
set_option linter.unusedSimpArgs false
set_option linter.unusedVariables false
namespace Go.Proofs.Ytdmgdldadpkhgaa
open Go.RowKit

theorem cmp_sum (x y : BitVec 8) : sumB x (~~~y) true = u8 x - u8 y + 256 := by
  unfold sumB
  rw [← u8_com y]
  simp only [cnt, if_true]
  omega
theorem cmp_c (x y : BitVec 8) : decide (u8 y ≤ u8 x) = (cmpV x y).c := by
  show _ = decide (256 ≤ sumB x (~~~y) true)
  rw [cmp_sum]
  exact dec_eq (by omega)
theorem cmp_z (x y : BitVec 8) : (x == y) = (cmpV x y).z := by
  show _ = (BitVec.ofInt 8 (sumB x (~~~y) true) == 0#8)
  rw [cmp_sum, ← u8_beq, ← u8_beq0, ← u8_byte]
  have x1 := u8_lo x
  have x2 := u8_hi x
  have y1 := u8_lo y
  have y2 := u8_hi y
  rw [Bool.eq_iff_iff, beq_iff_eq, beq_iff_eq]
  omega
set_option maxRecDepth 100000 in
set_option maxHeartbeats 4000000 in
theorem comp_walk (x t y s : BitVec 8) (n : Int) (hl : -9223372036854775808 ≤ n) (hh : n ≤ 9223372036854775807) (w : World) : Calls Try.prog 5 #[TB x t, TB y s, .int .i64 n] w (LawEnd w) := by
  have k1 := u8_or
  have k2 := u8_beq0
  have k3 := u8_beq
  have k4 := cmp_c x y
  have k5 := cmp_z x y
  rcases Bool.eq_false_or_eq_true (t ||| s == 0#8) with hz | hz
  all_goals
    go_enter Try.func5, Try.ntmps5
    go_wp2_with fail
    ((with_reducible refine (comp_n x t y s _).mono ?_); rintro _ w1 ⟨rfl, hb⟩)
    have T : w1.cell? ⟨w.heap.size, 0, none⟩ = some (B8 x) ∧ w1.cell? ⟨w.heap.size, 1, none⟩ = some (B8 t) ∧ w1.cell? ⟨w.heap.size + 1, 0, none⟩ = some (B8 y) ∧ w1.cell? ⟨w.heap.size + 1, 1, none⟩ = some (B8 s) := by
        refine ⟨?_, ?_, ?_, ?_⟩ <;> refine kc hb ?_ <;> (go_simp; first | done | rfl)
    have hz := hb.size
    (try simp only [World.size_alloc, World.size_setCell, World.size_drew] at hz)
    have hla' : w.heap.size < w1.heap.size := by omega
    have hlb' : w.heap.size + 1 < w1.heap.size := by omega
    have hB' : Below w.heap.size w w1 := by
        refine kb ?_ hb
        go_grown
    clear hb hz
    obtain ⟨ha_0, ha_1, hb_0, hb_1⟩ := T
    have hla := hla'; clear hla'
    have hlb := hlb'; clear hlb'
    have hna0 : ¬ (w.heap.size = w1.heap.size) := by omega
    have hna1 : ¬ (w.heap.size = w1.heap.size + 1) := by omega
    have hka1 : w.heap.size < w1.heap.size + 1 := by omega
    have hna2 : ¬ (w.heap.size = w1.heap.size + 1 + 1) := by omega
    have hka2 : w.heap.size < w1.heap.size + 1 + 1 := by omega
    have hnb0 : ¬ (w.heap.size + 1 = w1.heap.size) := by omega
    have hkb1 : w.heap.size < w1.heap.size := by omega
    have hB := hB'; clear hB'
    have hsz := hB.size
    go_upto_region 4 with fail
    clear hz k4 k5
    refine wp_region_plan (fun w' => w'.cell? ⟨w.heap.size, 0, none⟩ = some (B8 x) ∧ w'.cell? ⟨w.heap.size, 1, none⟩ = some (B8 t) ∧ w'.cell? ⟨w.heap.size + 1, 0, none⟩ = some (B8 y) ∧ w'.cell? ⟨w.heap.size + 1, 1, none⟩ = some (B8 s) ∧ w'.cell? ⟨w1.heap.size, 0, none⟩ = some (B8 (cmpV x y).a) ∧ w'.cell? ⟨w1.heap.size, 1, none⟩ = some (B8 (cmpT t s (cmpV x y).a).t) ∧ w'.cell? ⟨w1.heap.size, 2, none⟩ = some (.bool (cmpV x y).n) ∧ w'.cell? ⟨w1.heap.size, 3, none⟩ = some (.bool (cmpT t s (cmpV x y).a).n) ∧ w'.cell? ⟨w1.heap.size, 4, none⟩ = some (.bool (cmpV x y).v) ∧ w'.cell? ⟨w1.heap.size, 5, none⟩ = some (.bool (cmpT t s (cmpV x y).a).v) ∧ w'.cell? ⟨w1.heap.size, 6, none⟩ = some (.bool (cmpV x y).z) ∧ w'.cell? ⟨w1.heap.size, 7, none⟩ = some (.bool (cmpT t s (cmpV x y).a).z) ∧ w'.cell? ⟨w1.heap.size, 8, none⟩ = some (.bool (cmpV x y).c) ∧ w'.cell? ⟨w1.heap.size, 9, none⟩ = some (.bool (cmpT t s (cmpV x y).a).c) ∧ Below w.heap.size w w') (by kernel_rfl) (by kernel_rfl) (by kernel_rfl) ?_ ?_
    · (try dsimp only)
      refine ⟨?_, ?_, ?_, ?_, ?_, ?_, ?_, ?_, ?_, ?_, ?_, ?_, ?_, ?_, ?_⟩ <;> first | (go_simp; done) | (simp [*]; done) | go_grown
    repeat (first
      | (refine Plan.val (v := ?_) ?_ ?_ ?_; rotate_left; (· rfl); (· (intro W hSw; (try dsimp only at hSw); go_simp; all_goals (first | (with_reducible rfl) | (constructor <;> (with_reducible rfl))))); (try simp only [Act.put, List.setIfInBounds_toArray, List.set_cons_zero, List.set_cons_succ]))
      | (refine Plan.no ?_ ?_; (· rfl); (try simp only [Act.put, List.setIfInBounds_toArray, List.set_cons_zero, List.set_cons_succ]))
      | (refine Plan.call (v := ?_) (f := ?_) (args := ?_) ?_ ?_ ?_ ?_; rotate_left 3; (· rfl); (· (intro W hSw; (try dsimp only at hSw); go_simp; all_goals (first | (with_reducible rfl) | (constructor <;> (with_reducible rfl))))); (· (intro W hSw; (try dsimp only at hSw); first | (go_at_call 18; ((with_reducible refine (rcomp_n x t y s _).mono ?_); rintro _ wz ⟨rfl, hb⟩; (refine ⟨?_, ?_⟩; (· with_reducible rfl); exact ⟨kc hb hSw.1, kc hb hSw.2.1, kc hb hSw.2.2.1, kc hb hSw.2.2.2.1, kc hb hSw.2.2.2.2.1, kc hb hSw.2.2.2.2.2.1, kc hb hSw.2.2.2.2.2.2.1, kc hb hSw.2.2.2.2.2.2.2.1, kc hb hSw.2.2.2.2.2.2.2.2.1, kc hb hSw.2.2.2.2.2.2.2.2.2.1, kc hb hSw.2.2.2.2.2.2.2.2.2.2.1, kc hb hSw.2.2.2.2.2.2.2.2.2.2.2.1, kc hb hSw.2.2.2.2.2.2.2.2.2.2.2.2.1, kc hb hSw.2.2.2.2.2.2.2.2.2.2.2.2.2.1, kb hSw.2.2.2.2.2.2.2.2.2.2.2.2.2.2 hb⟩))) | (go_at_call 11; ((with_reducible refine (same_s _ _ _).mono ?_); rintro _ wz ⟨rfl, hb⟩; (refine ⟨?_, ?_⟩; (· with_reducible rfl); exact ⟨kc hb hSw.1, kc hb hSw.2.1, kc hb hSw.2.2.1, kc hb hSw.2.2.2.1, kc hb hSw.2.2.2.2.1, kc hb hSw.2.2.2.2.2.1, kc hb hSw.2.2.2.2.2.2.1, kc hb hSw.2.2.2.2.2.2.2.1, kc hb hSw.2.2.2.2.2.2.2.2.1, kc hb hSw.2.2.2.2.2.2.2.2.2.1, kc hb hSw.2.2.2.2.2.2.2.2.2.2.1, kc hb hSw.2.2.2.2.2.2.2.2.2.2.2.1, kc hb hSw.2.2.2.2.2.2.2.2.2.2.2.2.1, kc hb hSw.2.2.2.2.2.2.2.2.2.2.2.2.2.1, kb hSw.2.2.2.2.2.2.2.2.2.2.2.2.2.2 hb⟩))) | (go_at_call 19; ((with_reducible refine (step_n _ _ _ _).mono ?_); rintro _ wz ⟨rfl, hb⟩; (refine ⟨?_, ?_⟩; (· with_reducible rfl); exact ⟨kc hb hSw.1, kc hb hSw.2.1, kc hb hSw.2.2.1, kc hb hSw.2.2.2.1, kc hb hSw.2.2.2.2.1, kc hb hSw.2.2.2.2.2.1, kc hb hSw.2.2.2.2.2.2.1, kc hb hSw.2.2.2.2.2.2.2.1, kc hb hSw.2.2.2.2.2.2.2.2.1, kc hb hSw.2.2.2.2.2.2.2.2.2.1, kc hb hSw.2.2.2.2.2.2.2.2.2.2.1, kc hb hSw.2.2.2.2.2.2.2.2.2.2.2.1, kc hb hSw.2.2.2.2.2.2.2.2.2.2.2.2.1, kc hb hSw.2.2.2.2.2.2.2.2.2.2.2.2.2.1, kb hSw.2.2.2.2.2.2.2.2.2.2.2.2.2.2 hb⟩))) | (go_at_call 20; ((with_reducible refine (rstep_n _ _ _ _).mono ?_); rintro _ wz ⟨rfl, hb⟩; (refine ⟨?_, ?_⟩; (· with_reducible rfl); exact ⟨kc hb hSw.1, kc hb hSw.2.1, kc hb hSw.2.2.1, kc hb hSw.2.2.2.1, kc hb hSw.2.2.2.2.1, kc hb hSw.2.2.2.2.2.1, kc hb hSw.2.2.2.2.2.2.1, kc hb hSw.2.2.2.2.2.2.2.1, kc hb hSw.2.2.2.2.2.2.2.2.1, kc hb hSw.2.2.2.2.2.2.2.2.2.1, kc hb hSw.2.2.2.2.2.2.2.2.2.2.1, kc hb hSw.2.2.2.2.2.2.2.2.2.2.2.1, kc hb hSw.2.2.2.2.2.2.2.2.2.2.2.2.1, kc hb hSw.2.2.2.2.2.2.2.2.2.2.2.2.2.1, kb hSw.2.2.2.2.2.2.2.2.2.2.2.2.2.2 hb⟩))) | (go_at_call 14; ((with_reducible refine (awake_c _).mono ?_); rintro _ wz ⟨rfl, hb⟩; (refine ⟨?_, ?_⟩; (· with_reducible rfl); exact ⟨kc hb hSw.1, kc hb hSw.2.1, kc hb hSw.2.2.1, kc hb hSw.2.2.2.1, kc hb hSw.2.2.2.2.1, kc hb hSw.2.2.2.2.2.1, kc hb hSw.2.2.2.2.2.2.1, kc hb hSw.2.2.2.2.2.2.2.1, kc hb hSw.2.2.2.2.2.2.2.2.1, kc hb hSw.2.2.2.2.2.2.2.2.2.1, kc hb hSw.2.2.2.2.2.2.2.2.2.2.1, kc hb hSw.2.2.2.2.2.2.2.2.2.2.2.1, kc hb hSw.2.2.2.2.2.2.2.2.2.2.2.2.1, kc hb hSw.2.2.2.2.2.2.2.2.2.2.2.2.2.1, kb hSw.2.2.2.2.2.2.2.2.2.2.2.2.2.2 hb⟩))))); (try simp only [Act.put, List.setIfInBounds_toArray, List.set_cons_zero, List.set_cons_succ])))
    refine Plan.done ?_
    intro wz T
    (try dsimp only at T)
    have hBe := T.2.2.2.2.2.2.2.2.2.2.2.2.2.2
    go_wp2
    go_ret
    exact ⟨rfl, hBe⟩
end Go.Proofs.Ytdmgdldadpkhgaa
