/-
  What sums.subDigits comes to.
-/
import Derived.Test.YtdmgdldadpkhgaaDig
set_option linter.unusedSimpArgs false
set_option linter.unusedVariables false
namespace Go.Proofs.Ytdmgdldadpkhgaa
open Go.RowKit

set_option maxRecDepth 100000 in
set_option maxHeartbeats 2000000 in
theorem subDigits_c (x y : BitVec 8) (c : Bool) (w : World) : Calls Try.prog 37 #[B8 x, B8 y, .int .i64 (cnt c)] w fun e w' => e = .returned (TB (BitVec.ofInt 8 (eH x y c)) 0#8) ∧ Below w.heap.size w w' := by
  have c1 := cnt_lo c
  have c2 := cnt_hi c
  have l1 := lo_lo x
  have l2 := lo_hi x
  have l3 := lo_lo y
  have l4 := lo_hi y
  have i1 := hi_lo x
  have i2 := hi_hi x
  have i3 := hi_lo y
  have i4 := hi_hi y
  have p1 := eL0_lo x y c
  have p2 := eL0_hi x y c
  have p3 := eL_lo x y c
  have p4 := eL_hi x y c
  have p5 := eH0_lo x y c
  have p6 := eH0_hi x y c
  have x1 := u8_lo x
  have x2 := u8_hi x
  have y1 := u8_lo y
  have y2 := u8_hi y
  have e3 : hi x - hi y + eL x y c = eH0 x y c := rfl
  have key1 : (0 ≤ eL x y c ∧ lo x - lo y - (1 - cnt c) = eL x y c ∧ True) ∨ (¬ 0 ≤ eL0 x y c ∧ lo x - lo y - (1 - cnt c) = eL0 x y c ∧ (eL0 x y c - 6) % 16 - 16 = eL x y c) := by
    by_cases h : eL0 x y c < 0
    · exact .inr ⟨by omega, rfl, by unfold eL; rw [if_pos h]⟩
    · have : eL x y c = eL0 x y c := by unfold eL; rw [if_neg h]
      exact .inl ⟨by omega, this.symm, trivial⟩
  have key2 : (0 ≤ eH0 x y c ∧ eH x y c = eH0 x y c ∧ True) ∨ (¬ 0 ≤ eH0 x y c ∧ True ∧ eH0 x y c - 96 = eH x y c) := by
    by_cases h : eH0 x y c < 0
    · exact .inr ⟨by omega, trivial, by unfold eH; rw [if_pos h]⟩
    · exact .inl ⟨by omega, by unfold eH; rw [if_neg h], trivial⟩
  rcases key1 with ⟨h10, e1, e2⟩ | ⟨h10, e1, e2⟩ <;> rcases key2 with ⟨h160, e5, e4⟩ | ⟨h160, e5, e4⟩
  all_goals
    have E5 := Lib.hid e5
    clear e5
    go_enter Try.func37, Try.ntmps37
    go_wp2_with fail
    refine wp_scope_hid 2 fun C hC => ?_
    go_wp2_with (first
      | (go_at_call 47; ((with_reducible refine (lowx_c _ _).mono ?_); rintro _ _ ⟨rfl, rfl⟩))
      | (go_at_call 47; ((with_reducible refine (low_c (eL0 x y c - 6) (by omega) (by omega) _).mono ?_); rintro _ _ ⟨rfl, rfl⟩))
      | (go_at_call 48; ((with_reducible refine (high_c _ _).mono ?_); rintro _ _ ⟨rfl, rfl⟩))
      | (refine wp_goto_hid hC rfl ?_) | go_step3)
    ((with_reducible refine (ofh_c _ (eH x y c) (by first | exact E5.out | rfl) _).mono ?_); rintro _ w1 ⟨rfl, hb⟩)
    have T : w1.cell? ⟨w.heap.size, 0, none⟩ = some (.int .u8 0) ∧ w1.frozen? ⟨w.heap.size, 0, none⟩ = false ∧ w1.cell? ⟨w.heap.size, 1, none⟩ = some (.int .u8 0) ∧ w1.frozen? ⟨w.heap.size, 1, none⟩ = false := by
        refine ⟨?_, ?_, ?_, ?_⟩ <;> first | (refine kc hb ?_ <;> (go_simp; first | done | rfl)) | (refine kfz hb ?_ ?_ <;> first | (go_size; done) | (go_simp; done))
    have hz := hb.size
    (try simp only [World.size_alloc, World.size_setCell, World.size_drew] at hz)
    have hlr' : w.heap.size < w1.heap.size := by omega
    have hB' : Below w.heap.size w w1 := by
        refine kb ?_ hb
        go_grown
    clear hb hz
    obtain ⟨hr_0, fr_0, hr_1, fr_1⟩ := T
    have hlr := hlr'; clear hlr'
    have hnr0 : ¬ (w.heap.size = w1.heap.size) := by omega
    have hnr1 : ¬ (w.heap.size = w1.heap.size + 1) := by omega
    have hkr1 : w.heap.size < w1.heap.size + 1 := by omega
    have hnr2 : ¬ (w.heap.size = w1.heap.size + 1 + 1) := by omega
    have hkr2 : w.heap.size < w1.heap.size + 1 + 1 := by omega
    have hB := hB'; clear hB'
    have hsz := hB.size
    go_wp2
    rw [Into.ret]
    refine bodyPost_ret (v := TB _ _) (by simp [results, Try.results37, go_sem, hr_0, hr_1] <;> first | done | rfl | exact dec_eq Iff.rfl) rfl ⟨rfl, by go_grown⟩
end Go.Proofs.Ytdmgdldadpkhgaa
