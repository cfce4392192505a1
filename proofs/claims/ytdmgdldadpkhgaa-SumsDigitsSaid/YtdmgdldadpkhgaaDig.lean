/-
  What sums.addDigits comes to.
-/
import Derived.Test.YtdmgdldadpkhgaaDev
import Derived.Test.YtdmgdldadpkhgaaScope
import Derived.Test.YtdmgdldadpkhgaaPlanT
import Derived.Test.YtdmgdldadpkhgaaHeld
import Derived.Lib.Hide
set_option linter.unusedSimpArgs false
set_option linter.unusedVariables false
namespace Go.Proofs.Ytdmgdldadpkhgaa
open Go.RowKit

theorem ofh_c (n H : Int) (h : H = n) (w : World) : Calls Try.prog 25 #[.int .i64 n] w fun e w' => e = .returned (TB (BitVec.ofInt 8 H) 0#8) ∧ Below w.heap.size w w' := by
  subst h; exact of_c _ w
theorem fld_z (s : SV) (t : ST) (w : World) : (Instr.field 30 (VS s t) 3).run Try.prog w = .ok (TBit s.z t.z) w := by kernel_rfl
set_option maxRecDepth 100000 in
set_option maxHeartbeats 2000000 in
theorem addDigits_c (x y : BitVec 8) (c : Bool) (w : World) : Calls Try.prog 29 #[B8 x, B8 y, .int .i64 (cnt c)] w fun e w' => e = .returned (VS (addD x y c) T0) ∧ Below w.heap.size w w' := by
  have x1 := u8_lo x
  have x2 := u8_hi x
  have y1 := u8_lo y
  have y2 := u8_hi y
  have c1 := cnt_lo c
  have c2 := cnt_hi c
  have l1 := lo_lo x
  have l2 := lo_hi x
  have l3 := lo_lo y
  have l4 := lo_hi y
  have i1 := hi_lo x
  have i2 := hi_hi x
  have i3 := hi_lo y
  have i4 := hi_hi y
  have s1 := sgn_lo (hi x) i1
  have s2 := sgn_hi (hi x) (by omega)
  have s3 := sgn_lo (hi y) i3
  have s4 := sgn_hi (hi y) (by omega)
  have p1 := dL0_lo x y c
  have p2 := dL0_hi x y c
  have p3 := dL_lo x y c
  have p4 := dL_hi x y c
  have p5 := dH0_lo x y c
  have p6 := dH0_hi x y c
  have p7 := dH_lo x y c
  have p8 := dH_hi x y c
  have a1 := and128 (dH0 x y c) (by omega) (by omega)
  have a2 := neg128 (dH0 x y c)
  have e3 : hi x + hi y + dL x y c = dH0 x y c := rfl
  have f1 : ∀ w, (Instr.field 30 (VS (addV x y c) T0) 3).run Try.prog w = .ok (TBit (addV x y c).z false) w := fld_z _ _
  have key1 : (dL x y c < 10 ∧ lo x + lo y + cnt c = dL x y c ∧ True) ∨ (¬ dL0 x y c < 10 ∧ lo x + lo y + cnt c = dL0 x y c ∧ 16 + (dL0 x y c + 6) % 16 = dL x y c) := by
    by_cases h : dL0 x y c < 10
    · have : dL x y c = dL0 x y c := by unfold dL; rw [if_pos h]
      exact .inl ⟨by omega, this.symm, trivial⟩
    · exact .inr ⟨h, rfl, by unfold dL; rw [if_neg h]⟩
  have key2 : (dH0 x y c < 160 ∧ dH x y c = dH0 x y c ∧ decide (256 ≤ dH0 x y c) = decide (256 ≤ dH x y c)) ∨ (¬ dH0 x y c < 160 ∧ dH x y c = dH x y c ∧ dH0 x y c + 96 = dH x y c) := by
    by_cases h : dH0 x y c < 160
    · have : dH x y c = dH0 x y c := by unfold dH; rw [if_pos h]
      exact .inl ⟨h, this, by rw [this]⟩
    · exact .inr ⟨h, rfl, by unfold dH; rw [if_neg h]⟩
  rcases key1 with ⟨h10, e1, e2⟩ | ⟨h10, e1, e2⟩ <;> rcases key2 with ⟨h160, e5, e4⟩ | ⟨h160, e5, e4⟩
  all_goals
    have E5 := Lib.hid e5
    clear e5
    go_enter Try.func29, Try.ntmps29
    go_wp2_with fail
    refine wp_scope_hid 2 fun C hC => ?_
    go_wp2_with fail
    ((with_reducible refine (addBits_c x y c _).mono ?_); rintro _ w1 ⟨rfl, hb⟩)
    have T : w1.cell? ⟨w.heap.size, 0, none⟩ = some (.int .u8 0) ∧ w1.frozen? ⟨w.heap.size, 0, none⟩ = false ∧ w1.cell? ⟨w.heap.size, 1, none⟩ = some (.int .u8 0) ∧ w1.frozen? ⟨w.heap.size, 1, none⟩ = false ∧ w1.cell? ⟨w.heap.size, 2, none⟩ = some (.bool false) ∧ w1.frozen? ⟨w.heap.size, 2, none⟩ = false ∧ w1.cell? ⟨w.heap.size, 3, none⟩ = some (.bool false) ∧ w1.frozen? ⟨w.heap.size, 3, none⟩ = false ∧ w1.cell? ⟨w.heap.size, 4, none⟩ = some (.bool false) ∧ w1.frozen? ⟨w.heap.size, 4, none⟩ = false ∧ w1.cell? ⟨w.heap.size, 5, none⟩ = some (.bool false) ∧ w1.frozen? ⟨w.heap.size, 5, none⟩ = false ∧ w1.cell? ⟨w.heap.size, 6, none⟩ = some (.bool false) ∧ w1.frozen? ⟨w.heap.size, 6, none⟩ = false ∧ w1.cell? ⟨w.heap.size, 7, none⟩ = some (.bool false) ∧ w1.frozen? ⟨w.heap.size, 7, none⟩ = false ∧ w1.cell? ⟨w.heap.size, 8, none⟩ = some (.bool false) ∧ w1.frozen? ⟨w.heap.size, 8, none⟩ = false ∧ w1.cell? ⟨w.heap.size, 9, none⟩ = some (.bool false) ∧ w1.frozen? ⟨w.heap.size, 9, none⟩ = false := by
        refine ⟨?_, ?_, ?_, ?_, ?_, ?_, ?_, ?_, ?_, ?_, ?_, ?_, ?_, ?_, ?_, ?_, ?_, ?_, ?_, ?_⟩ <;> first | (refine kc hb ?_ <;> (go_simp; first | done | rfl)) | (refine kfz hb ?_ ?_ <;> first | (go_size; done) | (go_simp; done))
    have hz := hb.size
    (try simp only [World.size_alloc, World.size_setCell, World.size_drew] at hz)
    have hlr' : w.heap.size < w1.heap.size := by omega
    have hB' : Below w.heap.size w w1 := by
        refine kb ?_ hb
        go_grown
    clear hb hz
    obtain ⟨hr_0, fr_0, hr_1, fr_1, hr_2, fr_2, hr_3, fr_3, hr_4, fr_4, hr_5, fr_5, hr_6, fr_6, hr_7, fr_7, hr_8, fr_8, hr_9, fr_9⟩ := T
    have hlr := hlr'; clear hlr'
    have hnr0 : ¬ (w.heap.size = w1.heap.size) := by omega
    have hnr1 : ¬ (w.heap.size = w1.heap.size + 1) := by omega
    have hkr1 : w.heap.size < w1.heap.size + 1 := by omega
    have hnr2 : ¬ (w.heap.size = w1.heap.size + 1 + 1) := by omega
    have hkr2 : w.heap.size < w1.heap.size + 1 + 1 := by omega
    have hB := hB'; clear hB'
    have hsz := hB.size
    go_wp2_with (first
      | (go_at_call 47; ((with_reducible refine (lowx_c _ _).mono ?_); rintro _ _ ⟨rfl, rfl⟩))
      | (go_at_call 47; ((with_reducible refine (low_c (dL0 x y c + 6) (by omega) (by omega) _).mono ?_); rintro _ _ ⟨rfl, rfl⟩))
      | (go_at_call 48; ((with_reducible refine (high_c _ _).mono ?_); rintro _ _ ⟨rfl, rfl⟩))
      | (go_at_call 50; ((with_reducible refine (signedh_c _ _).mono ?_); rintro _ _ ⟨rfl, rfl⟩))
      | (go_at_call 49; ((with_reducible refine (beyond_c (sgn (hi x) + sgn (hi y) + dL x y c) (by omega) (by omega) _).mono ?_); rintro _ _ ⟨rfl, rfl⟩))
      | (refine wp_goto_hid hC rfl ?_) | go_step3)
    have hn0 : ¬ w.heap.size = w1.heap.size := hnr0
    have hn1 : ¬ w1.heap.size = w.heap.size := fun e => hnr0 e.symm
    have hw1 : w.heap.size < w1.heap.size := hlr
    ((with_reducible refine (ofh_c _ (dH x y c) (by first | exact E5.out | rfl) _).mono ?_); rintro _ w2 ⟨rfl, hb⟩)
    have T : w2.cell? ⟨w.heap.size, 0, none⟩ = some (.int .u8 0) ∧ w2.frozen? ⟨w.heap.size, 0, none⟩ = false ∧ w2.cell? ⟨w.heap.size, 1, none⟩ = some (.int .u8 0) ∧ w2.frozen? ⟨w.heap.size, 1, none⟩ = false ∧ w2.cell? ⟨w.heap.size, 2, none⟩ = some (.bool false) ∧ w2.frozen? ⟨w.heap.size, 2, none⟩ = false ∧ w2.cell? ⟨w.heap.size, 3, none⟩ = some (.bool false) ∧ w2.frozen? ⟨w.heap.size, 3, none⟩ = false ∧ w2.cell? ⟨w.heap.size, 4, none⟩ = some (.bool false) ∧ w2.frozen? ⟨w.heap.size, 4, none⟩ = false ∧ w2.cell? ⟨w.heap.size, 5, none⟩ = some (.bool false) ∧ w2.frozen? ⟨w.heap.size, 5, none⟩ = false ∧ w2.cell? ⟨w.heap.size, 6, none⟩ = some (.bool false) ∧ w2.frozen? ⟨w.heap.size, 6, none⟩ = false ∧ w2.cell? ⟨w.heap.size, 7, none⟩ = some (.bool false) ∧ w2.frozen? ⟨w.heap.size, 7, none⟩ = false ∧ w2.cell? ⟨w.heap.size, 8, none⟩ = some (.bool false) ∧ w2.frozen? ⟨w.heap.size, 8, none⟩ = false ∧ w2.cell? ⟨w.heap.size, 9, none⟩ = some (.bool false) ∧ w2.frozen? ⟨w.heap.size, 9, none⟩ = false ∧ w2.cell? ⟨w1.heap.size, 0, none⟩ = some (.int .u8 0) ∧ w2.frozen? ⟨w1.heap.size, 0, none⟩ = false ∧ w2.cell? ⟨w1.heap.size, 1, none⟩ = some (.int .u8 0) ∧ w2.frozen? ⟨w1.heap.size, 1, none⟩ = false ∧ w2.cell? ⟨w1.heap.size, 2, none⟩ = some (.bool (nb (dH0 x y c))) ∧ w2.frozen? ⟨w1.heap.size, 2, none⟩ = false ∧ w2.cell? ⟨w1.heap.size, 3, none⟩ = some (.bool false) ∧ w2.frozen? ⟨w1.heap.size, 3, none⟩ = false ∧ w2.cell? ⟨w1.heap.size, 4, none⟩ = some (.bool (bey (sgn (hi x) + sgn (hi y) + dL x y c))) ∧ w2.frozen? ⟨w1.heap.size, 4, none⟩ = false ∧ w2.cell? ⟨w1.heap.size, 5, none⟩ = some (.bool false) ∧ w2.frozen? ⟨w1.heap.size, 5, none⟩ = false ∧ w2.cell? ⟨w1.heap.size, 6, none⟩ = some (.bool (addV x y c).z) ∧ w2.frozen? ⟨w1.heap.size, 6, none⟩ = false ∧ w2.cell? ⟨w1.heap.size, 7, none⟩ = some (.bool false) ∧ w2.frozen? ⟨w1.heap.size, 7, none⟩ = false ∧ w2.cell? ⟨w1.heap.size, 8, none⟩ = some (.bool false) ∧ w2.frozen? ⟨w1.heap.size, 8, none⟩ = false ∧ w2.cell? ⟨w1.heap.size, 9, none⟩ = some (.bool false) ∧ w2.frozen? ⟨w1.heap.size, 9, none⟩ = false := by
        refine ⟨?_, ?_, ?_, ?_, ?_, ?_, ?_, ?_, ?_, ?_, ?_, ?_, ?_, ?_, ?_, ?_, ?_, ?_, ?_, ?_, ?_, ?_, ?_, ?_, ?_, ?_, ?_, ?_, ?_, ?_, ?_, ?_, ?_, ?_, ?_, ?_, ?_, ?_, ?_, ?_⟩ <;> first | (refine kc hb ?_ <;> (go_simp; first | done | rfl)) | (refine kfz hb ?_ ?_ <;> first | (go_size; done) | (go_simp; done))
    have hz := hb.size
    (try simp only [World.size_alloc, World.size_setCell, World.size_drew] at hz)
    have hlr' : w.heap.size < w2.heap.size := by omega
    have hls' : w1.heap.size < w2.heap.size := by omega
    have hB' : Below w.heap.size w w2 := by
        refine kb ?_ hb
        go_grown
    clear hr_0 fr_0 hr_1 fr_1 hr_2 fr_2 hr_3 fr_3 hr_4 fr_4 hr_5 fr_5 hr_6 fr_6 hr_7 fr_7 hr_8 fr_8 hr_9 fr_9 hlr hnr0 hnr1 hkr1 hnr2 hkr2 hB hsz
    clear hb hz
    obtain ⟨hr_0, fr_0, hr_1, fr_1, hr_2, fr_2, hr_3, fr_3, hr_4, fr_4, hr_5, fr_5, hr_6, fr_6, hr_7, fr_7, hr_8, fr_8, hr_9, fr_9, hs_0, fs_0, hs_1, fs_1, hs_2, fs_2, hs_3, fs_3, hs_4, fs_4, hs_5, fs_5, hs_6, fs_6, hs_7, fs_7, hs_8, fs_8, hs_9, fs_9⟩ := T
    have hlr := hlr'; clear hlr'
    have hls := hls'; clear hls'
    have hnr0 : ¬ (w.heap.size = w2.heap.size) := by omega
    have hnr1 : ¬ (w.heap.size = w2.heap.size + 1) := by omega
    have hkr1 : w.heap.size < w2.heap.size + 1 := by omega
    have hnr2 : ¬ (w.heap.size = w2.heap.size + 1 + 1) := by omega
    have hkr2 : w.heap.size < w2.heap.size + 1 + 1 := by omega
    have hns0 : ¬ (w1.heap.size = w2.heap.size) := by omega
    have hns1 : ¬ (w1.heap.size = w2.heap.size + 1) := by omega
    have hks1 : w1.heap.size < w2.heap.size + 1 := by omega
    have hns2 : ¬ (w1.heap.size = w2.heap.size + 1 + 1) := by omega
    have hks2 : w1.heap.size < w2.heap.size + 1 + 1 := by omega
    have hB := hB'; clear hB'
    have hsz := hB.size
    go_upto_region 13 with fail
    refine wp_pin (fun w' => w'.cell? ⟨w.heap.size, 0, none⟩ = some (.int .u8 0) ∧ w'.frozen? ⟨w.heap.size, 0, none⟩ = false ∧ w'.cell? ⟨w.heap.size, 1, none⟩ = some (.int .u8 0) ∧ w'.frozen? ⟨w.heap.size, 1, none⟩ = false ∧ w'.cell? ⟨w.heap.size, 2, none⟩ = some (.bool false) ∧ w'.frozen? ⟨w.heap.size, 2, none⟩ = false ∧ w'.cell? ⟨w.heap.size, 3, none⟩ = some (.bool false) ∧ w'.frozen? ⟨w.heap.size, 3, none⟩ = false ∧ w'.cell? ⟨w.heap.size, 4, none⟩ = some (.bool false) ∧ w'.frozen? ⟨w.heap.size, 4, none⟩ = false ∧ w'.cell? ⟨w.heap.size, 5, none⟩ = some (.bool false) ∧ w'.frozen? ⟨w.heap.size, 5, none⟩ = false ∧ w'.cell? ⟨w.heap.size, 6, none⟩ = some (.bool false) ∧ w'.frozen? ⟨w.heap.size, 6, none⟩ = false ∧ w'.cell? ⟨w.heap.size, 7, none⟩ = some (.bool false) ∧ w'.frozen? ⟨w.heap.size, 7, none⟩ = false ∧ w'.cell? ⟨w.heap.size, 8, none⟩ = some (.bool false) ∧ w'.frozen? ⟨w.heap.size, 8, none⟩ = false ∧ w'.cell? ⟨w.heap.size, 9, none⟩ = some (.bool false) ∧ w'.frozen? ⟨w.heap.size, 9, none⟩ = false ∧ w'.cell? ⟨w1.heap.size, 0, none⟩ = some (.int .u8 (u8 (BitVec.ofInt 8 (dH x y c)))) ∧ w'.cell? ⟨w1.heap.size, 1, none⟩ = some (.int .u8 (u8 0#8)) ∧ w'.cell? ⟨w1.heap.size, 2, none⟩ = some (.bool (nb (dH0 x y c))) ∧ w'.cell? ⟨w1.heap.size, 3, none⟩ = some (.bool false) ∧ w'.cell? ⟨w1.heap.size, 4, none⟩ = some (.bool (bey (sgn (hi x) + sgn (hi y) + dL x y c))) ∧ w'.cell? ⟨w1.heap.size, 5, none⟩ = some (.bool false) ∧ w'.cell? ⟨w1.heap.size, 6, none⟩ = some (.bool (addV x y c).z) ∧ w'.cell? ⟨w1.heap.size, 7, none⟩ = some (.bool false) ∧ w'.cell? ⟨w1.heap.size, 8, none⟩ = some (.bool (decide (256 ≤ dH x y c))) ∧ w'.cell? ⟨w1.heap.size, 9, none⟩ = some (.bool false) ∧ Below w.heap.size w w') ?_ ?_
    · (try dsimp only)
      refine ⟨?_, ?_, ?_, ?_, ?_, ?_, ?_, ?_, ?_, ?_, ?_, ?_, ?_, ?_, ?_, ?_, ?_, ?_, ?_, ?_, ?_, ?_, ?_, ?_, ?_, ?_, ?_, ?_, ?_, ?_, ?_⟩ <;> first | (go_simp; done) | (simp [*]; done) | go_grown
    intro w3 T
    (try dsimp only at T)
    clear hr_0 fr_0 hr_1 fr_1 hr_2 fr_2 hr_3 fr_3 hr_4 fr_4 hr_5 fr_5 hr_6 fr_6 hr_7 fr_7 hr_8 fr_8 hr_9 fr_9 hs_0 fs_0 hs_1 fs_1 hs_2 fs_2 hs_3 fs_3 hs_4 fs_4 hs_5 fs_5 hs_6 fs_6 hs_7 fs_7 hs_8 fs_8 hs_9 fs_9 hlr hls hnr0 hnr1 hkr1 hnr2 hkr2 hns0 hns1 hks1 hns2 hks2 hB hsz
    obtain ⟨hr_0, fr_0, hr_1, fr_1, hr_2, fr_2, hr_3, fr_3, hr_4, fr_4, hr_5, fr_5, hr_6, fr_6, hr_7, fr_7, hr_8, fr_8, hr_9, fr_9, hq_0, hq_1, hq_2, hq_3, hq_4, hq_5, hq_6, hq_7, hq_8, hq_9, hB⟩ := T
    have hsz := hB.size
    have hlr := klt hr_0
    have hlq := klt hq_0
    have hnr0 : ¬ (w.heap.size = w3.heap.size) := by omega
    have hnr1 : ¬ (w.heap.size = w3.heap.size + 1) := by omega
    have hkr1 : w.heap.size < w3.heap.size + 1 := by omega
    have hnr2 : ¬ (w.heap.size = w3.heap.size + 1 + 1) := by omega
    have hkr2 : w.heap.size < w3.heap.size + 1 + 1 := by omega
    have hnq0 : ¬ (w1.heap.size = w3.heap.size) := by omega
    have hnq1 : ¬ (w1.heap.size = w3.heap.size + 1) := by omega
    have hkq1 : w1.heap.size < w3.heap.size + 1 := by omega
    have hnq2 : ¬ (w1.heap.size = w3.heap.size + 1 + 1) := by omega
    have hkq2 : w1.heap.size < w3.heap.size + 1 + 1 := by omega
    clear e1 e2 e3 e4 a1 a2 f1 x1 x2 y1 y2 c1 c2 l1 l2 l3 l4 i1 i2 i3 i4 s1 s2 s3 s4 p1 p2 p3 p4 p5 p6 p7 p8
    go_wp2
    rw [Into.ret]
    refine bodyPost_ret (v := VS (addD x y c) T0) (by simp [results, Try.results29, go_sem, hr_0, hr_1, hr_2, hr_3, hr_4, hr_5, hr_6, hr_7, hr_8, hr_9, addD, addV, T0] <;> first | done | rfl | exact dec_eq Iff.rfl) rfl ⟨rfl, by go_grown⟩
end Go.Proofs.Ytdmgdldadpkhgaa
