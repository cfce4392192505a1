/-
  What the document's answer of layer 1 comes to: Both, of and.
-/
import Derived.Test.YtbbiegbfoimcaaaBoth
set_option linter.unusedSimpArgs false
set_option linter.unusedVariables false
namespace Go.Proofs.Ytbbiegbfoimcaaa
open Go.RowKit

set_option maxRecDepth 100000 in
set_option maxHeartbeats 8000000 in
theorem both_and (x t y s : BitVec 8) (w : World) : Calls Try.prog 11 #[TB x t, TB y s, .agg #[.int .i64 0, .int .i64 0, .int .i64 0, .int .i64 1]] w fun e w' => e = .returned (TB (mk8 (bothV Bool.and x y)) (mk8 (bothT Bool.and x t y s))) ∧ Below w.heap.size w w' := by
  have c1 := u8_lo x
  have c2 := u8_hi x
  have c3 := u8_lo y
  have c4 := u8_hi y
  go_enter Try.func11, Try.ntmps11
  go_wp2_with fail
  go_loopw [7, 8, 9] (fun v t0 i wr => ∃ k : Nat, k ≤ 8 ∧ i = .int .i64 k ∧ v = .int .i64 (sumP (bothV Bool.and x y) k) ∧ t0 = .int .i64 (sumP (bothT Bool.and x t y s) k) ∧ wr.cell? ⟨w.heap.size, 0, none⟩ = some (B8 x) ∧ wr.cell? ⟨w.heap.size, 1, none⟩ = some (B8 t) ∧ wr.cell? ⟨w.heap.size + 1, 0, none⟩ = some (B8 y) ∧ wr.cell? ⟨w.heap.size + 1, 1, none⟩ = some (B8 s) ∧ wr.cell? ⟨w.heap.size + 1 + 1, 0, none⟩ = some (.int .i64 0) ∧ wr.cell? ⟨w.heap.size + 1 + 1, 1, none⟩ = some (.int .i64 0) ∧ wr.cell? ⟨w.heap.size + 1 + 1, 2, none⟩ = some (.int .i64 0) ∧ wr.cell? ⟨w.heap.size + 1 + 1, 3, none⟩ = some (.int .i64 1) ∧ wr.cell? ⟨w.heap.size + 1 + 1 + 1, 0, none⟩ = some (.int .u8 0) ∧ wr.frozen? ⟨w.heap.size + 1 + 1 + 1, 0, none⟩ = false ∧ wr.cell? ⟨w.heap.size + 1 + 1 + 1, 1, none⟩ = some (.int .u8 0) ∧ wr.frozen? ⟨w.heap.size + 1 + 1 + 1, 1, none⟩ = false ∧ Below w.heap.size w wr) (fun _ _ i _ => 8 - (intOf i).toNat)
  case atStart => exact ⟨0, by omega, rfl, rfl, rfl, by go_simp, by go_simp, by go_simp, by go_simp, by go_simp, by go_simp, by go_simp, by go_simp, by go_simp, by go_simp, by go_simp, by go_simp, by go_grown⟩
  case round =>
    obtain ⟨k, hk, rfl, rfl, rfl, hrel⟩ := hrel
    obtain ⟨ha_0, ha_1, hb_0, hb_1, he_0, he_1, he_2, he_3, hr_0, fr_0, hr_1, fr_1, hB⟩ := hrel
    have hsz := hB.size
    have hla := klt ha_0
    have hlb := klt hb_0
    have hle := klt he_0
    have hlr := klt hr_0
    have hna0 : ¬ (w.heap.size = wr.heap.size) := by omega
    have hna1 : ¬ (w.heap.size = wr.heap.size + 1) := by omega
    have hka1 : w.heap.size < wr.heap.size + 1 := by omega
    have hna2 : ¬ (w.heap.size = wr.heap.size + 1 + 1) := by omega
    have hka2 : w.heap.size < wr.heap.size + 1 + 1 := by omega
    have hnb0 : ¬ (w.heap.size + 1 = wr.heap.size) := by omega
    have hkb1 : w.heap.size < wr.heap.size := by omega
    have hne0 : ¬ (w.heap.size + 1 + 1 = wr.heap.size) := by omega
    have hke1 : w.heap.size + 1 < wr.heap.size := by omega
    have hnr0 : ¬ (w.heap.size + 1 + 1 + 1 = wr.heap.size) := by omega
    have hkr1 : w.heap.size + 1 + 1 < wr.heap.size := by omega
    by_cases hlt : k < 8
    · have b1 := sumP_lo (bothV Bool.and x y) k
      have b2 := sumP_hi (bothV Bool.and x y) k (by omega)
      have b3 := sumP_lo (bothT Bool.and x t y s) k
      have b4 := sumP_hi (bothT Bool.and x t y s) k (by omega)
      have b5 := pw_lo k
      have b6 := pw_hi k (by omega)
      have EF : Hid (sumP (bothV Bool.and x y) (k + 1) = sumP (bothV Bool.and x y) k + if bothV Bool.and x y k then pw k else 0) := Lib.hid rfl
      have EG : Hid (sumP (bothT Bool.and x t y s) (k + 1) = sumP (bothT Bool.and x t y s) k + if bothT Bool.and x t y s k then pw k else 0) := Lib.hid rfl
      have FV : Hid (bothV Bool.and x y k = Bool.and (bitAt x k) (bitAt y k)) := Lib.hid rfl
      have FT : Hid (bothT Bool.and x t y s k = (may0 Bool.and (!bitAt x k || bitAt t k) (bitAt x k || bitAt t k) (!bitAt y k || bitAt s k) (bitAt y k || bitAt s k) && may1 Bool.and (!bitAt x k || bitAt t k) (bitAt x k || bitAt t k) (!bitAt y k || bitAt s k) (bitAt y k || bitAt s k))) := Lib.hid rfl
      generalize sumP (bothV Bool.and x y) k = S at *
      generalize sumP (bothT Bool.and x t y s) k = T at *
      have w1 := wrap_s (pw k) (by omega) (by omega)
      have w2 := wrap_s (S + pw k) (by omega) (by omega)
      have w3 := wrap_s S (by omega) (by omega)
      have w4 := wrap_s 0 (by omega) (by omega)
      have e0 : m0 x t k = (!bitAt x k || bitAt t k) := rfl
      have e1 : m1 x t k = (bitAt x k || bitAt t k) := rfl
      have e2 : m0 y s k = (!bitAt y k || bitAt s k) := rfl
      have e3 : m1 y s k = (bitAt y k || bitAt s k) := rfl
      cases hx : bitAt x k <;> cases ht : bitAt t k <;> cases hy : bitAt y k <;> cases hs : bitAt s k
      all_goals
        rw [hx, ht] at e0 e1
        rw [hy, hs] at e2 e3
        simp only [Bool.not_true, Bool.not_false, Bool.true_or, Bool.or_true, Bool.false_or, Bool.or_false] at e0 e1 e2 e3
        have gv := FV.out
        have gt := FT.out
        rw [hx, hy] at gv
        rw [hx, ht, hy, hs] at gt
        have GV := Lib.hid (gv.trans rfl)
        have GT := Lib.hid (gt.trans rfl)
        clear gv gt ht hs
        go_wp2_with (go_at_call 35; ((with_reducible refine (has_c _ k hlt _).mono ?_); rintro _ _ ⟨rfl, rfl⟩))
        refine wp_region_plan (fun w' => w'.cell? ⟨w.heap.size, 0, none⟩ = some (B8 x) ∧ w'.cell? ⟨w.heap.size, 1, none⟩ = some (B8 t) ∧ w'.cell? ⟨w.heap.size + 1, 0, none⟩ = some (B8 y) ∧ w'.cell? ⟨w.heap.size + 1, 1, none⟩ = some (B8 s) ∧ w'.cell? ⟨w.heap.size + 1 + 1, 0, none⟩ = some (.int .i64 0) ∧ w'.cell? ⟨w.heap.size + 1 + 1, 1, none⟩ = some (.int .i64 0) ∧ w'.cell? ⟨w.heap.size + 1 + 1, 2, none⟩ = some (.int .i64 0) ∧ w'.cell? ⟨w.heap.size + 1 + 1, 3, none⟩ = some (.int .i64 1) ∧ w'.cell? ⟨w.heap.size + 1 + 1 + 1, 0, none⟩ = some (.int .u8 0) ∧ w'.frozen? ⟨w.heap.size + 1 + 1 + 1, 0, none⟩ = false ∧ w'.cell? ⟨w.heap.size + 1 + 1 + 1, 1, none⟩ = some (.int .u8 0) ∧ w'.frozen? ⟨w.heap.size + 1 + 1 + 1, 1, none⟩ = false ∧ Below w.heap.size w w') (by kernel_rfl) (by kernel_rfl) (by kernel_rfl) ?_ ?_
        · (try dsimp only)
          refine ⟨?_, ?_, ?_, ?_, ?_, ?_, ?_, ?_, ?_, ?_, ?_, ?_, ?_⟩ <;> first | (go_simp; done) | (simp [*]; done) | go_grown
        repeat (first
          | (refine Plan.val (v := ?_) ?_ ?_ ?_; rotate_left; (· rfl); (· (intro W hSw; (try dsimp only at hSw); go_simp; all_goals (first | (with_reducible rfl) | (constructor <;> (with_reducible rfl))))); (try simp only [Act.put, List.setIfInBounds_toArray, List.set_cons_zero, List.set_cons_succ]))
          | (refine Plan.no ?_ ?_; (· rfl); (try simp only [Act.put, List.setIfInBounds_toArray, List.set_cons_zero, List.set_cons_succ]))
          | (refine Plan.call (v := ?_) (f := ?_) (args := ?_) ?_ ?_ ?_ ?_; rotate_left 3; (· rfl); (· (intro W hSw; (try dsimp only at hSw); go_simp; all_goals (first | (with_reducible rfl) | (constructor <;> (with_reducible rfl))))); (· (intro W hSw; (try dsimp only at hSw); first | (go_at_call 36; ((with_reducible refine (power_b k (by omega) _).mono ?_); rintro _ wz ⟨rfl, hb⟩; (refine ⟨?_, ?_⟩; (· with_reducible rfl); exact ⟨kc hb hSw.1, kc hb hSw.2.1, kc hb hSw.2.2.1, kc hb hSw.2.2.2.1, kc hb hSw.2.2.2.2.1, kc hb hSw.2.2.2.2.2.1, kc hb hSw.2.2.2.2.2.2.1, kc hb hSw.2.2.2.2.2.2.2.1, kc hb hSw.2.2.2.2.2.2.2.2.1, kfz hb (klt hSw.2.2.2.2.2.2.2.2.1) hSw.2.2.2.2.2.2.2.2.2.1, kc hb hSw.2.2.2.2.2.2.2.2.2.2.1, kfz hb (klt hSw.2.2.2.2.2.2.2.2.2.2.1) hSw.2.2.2.2.2.2.2.2.2.2.2.1, kb hSw.2.2.2.2.2.2.2.2.2.2.2.2 hb⟩))))); (try simp only [Act.put, List.setIfInBounds_toArray, List.set_cons_zero, List.set_cons_succ])))
        refine Plan.done ?_
        intro u1 T
        (try dsimp only at T)
        clear ha_0 ha_1 hb_0 hb_1 he_0 he_1 he_2 he_3 hr_0 fr_0 hr_1 fr_1 hB hsz hla hlb hle hlr hna0 hna1 hka1 hna2 hka2 hnb0 hkb1 hne0 hke1 hnr0 hkr1
        obtain ⟨ha_0, ha_1, hb_0, hb_1, he_0, he_1, he_2, he_3, hr_0, fr_0, hr_1, fr_1, hB⟩ := T
        have hsz := hB.size
        have hla := klt ha_0
        have hlb := klt hb_0
        have hle := klt he_0
        have hlr := klt hr_0
        have hna0 : ¬ (w.heap.size = u1.heap.size) := by omega
        have hna1 : ¬ (w.heap.size = u1.heap.size + 1) := by omega
        have hka1 : w.heap.size < u1.heap.size + 1 := by omega
        have hna2 : ¬ (w.heap.size = u1.heap.size + 1 + 1) := by omega
        have hka2 : w.heap.size < u1.heap.size + 1 + 1 := by omega
        have hnb0 : ¬ (w.heap.size + 1 = u1.heap.size) := by omega
        have hkb1 : w.heap.size < u1.heap.size := by omega
        have hne0 : ¬ (w.heap.size + 1 + 1 = u1.heap.size) := by omega
        have hke1 : w.heap.size + 1 < u1.heap.size := by omega
        have hnr0 : ¬ (w.heap.size + 1 + 1 + 1 = u1.heap.size) := by omega
        have hkr1 : w.heap.size + 1 + 1 < u1.heap.size := by omega
        go_wp2_with fail
        ((with_reducible refine (may_c x t k hlt _).mono ?_); rintro _ u2 ⟨rfl, hb⟩)
        have T : u2.cell? ⟨w.heap.size, 0, none⟩ = some (B8 x) ∧ u2.cell? ⟨w.heap.size, 1, none⟩ = some (B8 t) ∧ u2.cell? ⟨w.heap.size + 1, 0, none⟩ = some (B8 y) ∧ u2.cell? ⟨w.heap.size + 1, 1, none⟩ = some (B8 s) ∧ u2.cell? ⟨w.heap.size + 1 + 1, 0, none⟩ = some (.int .i64 0) ∧ u2.cell? ⟨w.heap.size + 1 + 1, 1, none⟩ = some (.int .i64 0) ∧ u2.cell? ⟨w.heap.size + 1 + 1, 2, none⟩ = some (.int .i64 0) ∧ u2.cell? ⟨w.heap.size + 1 + 1, 3, none⟩ = some (.int .i64 1) ∧ u2.cell? ⟨w.heap.size + 1 + 1 + 1, 0, none⟩ = some (.int .u8 0) ∧ u2.frozen? ⟨w.heap.size + 1 + 1 + 1, 0, none⟩ = false ∧ u2.cell? ⟨w.heap.size + 1 + 1 + 1, 1, none⟩ = some (.int .u8 0) ∧ u2.frozen? ⟨w.heap.size + 1 + 1 + 1, 1, none⟩ = false := by
            refine ⟨?_, ?_, ?_, ?_, ?_, ?_, ?_, ?_, ?_, ?_, ?_, ?_⟩ <;> first | (refine kc hb ?_ <;> (go_simp; first | done | rfl)) | (refine kfz hb ?_ ?_ <;> first | (go_size; done) | (go_simp; done))
        have hz := hb.size
        (try simp only [World.size_alloc, World.size_setCell, World.size_drew] at hz)
        have hla' : w.heap.size < u2.heap.size := by omega
        have hlb' : w.heap.size + 1 < u2.heap.size := by omega
        have hle' : w.heap.size + 1 + 1 < u2.heap.size := by omega
        have hlr' : w.heap.size + 1 + 1 + 1 < u2.heap.size := by omega
        have hB' : Below w.heap.size w u2 := by
            refine kb ?_ hb
            go_grown
        clear ha_0 ha_1 hb_0 hb_1 he_0 he_1 he_2 he_3 hr_0 fr_0 hr_1 fr_1 hB hsz hla hlb hle hlr hna0 hna1 hka1 hna2 hka2 hnb0 hkb1 hne0 hke1 hnr0 hkr1
        clear hb hz
        obtain ⟨ha_0, ha_1, hb_0, hb_1, he_0, he_1, he_2, he_3, hr_0, fr_0, hr_1, fr_1⟩ := T
        have hla := hla'; clear hla'
        have hlb := hlb'; clear hlb'
        have hle := hle'; clear hle'
        have hlr := hlr'; clear hlr'
        have hna0 : ¬ (w.heap.size = u2.heap.size) := by omega
        have hna1 : ¬ (w.heap.size = u2.heap.size + 1) := by omega
        have hka1 : w.heap.size < u2.heap.size + 1 := by omega
        have hna2 : ¬ (w.heap.size = u2.heap.size + 1 + 1) := by omega
        have hka2 : w.heap.size < u2.heap.size + 1 + 1 := by omega
        have hnb0 : ¬ (w.heap.size + 1 = u2.heap.size) := by omega
        have hkb1 : w.heap.size < u2.heap.size := by omega
        have hne0 : ¬ (w.heap.size + 1 + 1 = u2.heap.size) := by omega
        have hke1 : w.heap.size + 1 < u2.heap.size := by omega
        have hnr0 : ¬ (w.heap.size + 1 + 1 + 1 = u2.heap.size) := by omega
        have hkr1 : w.heap.size + 1 + 1 < u2.heap.size := by omega
        have hB := hB'; clear hB'
        have hsz := hB.size
        go_wp2_with fail
        ((with_reducible refine (may_c y s k hlt _).mono ?_); rintro _ u3 ⟨rfl, hb⟩)
        have T : u3.cell? ⟨w.heap.size, 0, none⟩ = some (B8 x) ∧ u3.cell? ⟨w.heap.size, 1, none⟩ = some (B8 t) ∧ u3.cell? ⟨w.heap.size + 1, 0, none⟩ = some (B8 y) ∧ u3.cell? ⟨w.heap.size + 1, 1, none⟩ = some (B8 s) ∧ u3.cell? ⟨w.heap.size + 1 + 1, 0, none⟩ = some (.int .i64 0) ∧ u3.cell? ⟨w.heap.size + 1 + 1, 1, none⟩ = some (.int .i64 0) ∧ u3.cell? ⟨w.heap.size + 1 + 1, 2, none⟩ = some (.int .i64 0) ∧ u3.cell? ⟨w.heap.size + 1 + 1, 3, none⟩ = some (.int .i64 1) ∧ u3.cell? ⟨w.heap.size + 1 + 1 + 1, 0, none⟩ = some (.int .u8 0) ∧ u3.frozen? ⟨w.heap.size + 1 + 1 + 1, 0, none⟩ = false ∧ u3.cell? ⟨w.heap.size + 1 + 1 + 1, 1, none⟩ = some (.int .u8 0) ∧ u3.frozen? ⟨w.heap.size + 1 + 1 + 1, 1, none⟩ = false ∧ u3.cell? ⟨u2.heap.size, 0, none⟩ = some (.bool (m0 x t k)) ∧ u3.cell? ⟨u2.heap.size, 1, none⟩ = some (.bool (m1 x t k)) := by
            refine ⟨?_, ?_, ?_, ?_, ?_, ?_, ?_, ?_, ?_, ?_, ?_, ?_, ?_, ?_⟩ <;> first | (refine kc hb ?_ <;> (go_simp; first | done | rfl)) | (refine kfz hb ?_ ?_ <;> first | (go_size; done) | (go_simp; done))
        have hz := hb.size
        (try simp only [World.size_alloc, World.size_setCell, World.size_drew] at hz)
        have hla' : w.heap.size < u3.heap.size := by omega
        have hlb' : w.heap.size + 1 < u3.heap.size := by omega
        have hle' : w.heap.size + 1 + 1 < u3.heap.size := by omega
        have hlr' : w.heap.size + 1 + 1 + 1 < u3.heap.size := by omega
        have hlp' : u2.heap.size < u3.heap.size := by omega
        have hB' : Below w.heap.size w u3 := by
            refine kb ?_ hb
            go_grown
        clear ha_0 ha_1 hb_0 hb_1 he_0 he_1 he_2 he_3 hr_0 fr_0 hr_1 fr_1 hla hlb hle hlr hna0 hna1 hka1 hna2 hka2 hnb0 hkb1 hne0 hke1 hnr0 hkr1 hB hsz
        clear hb hz
        obtain ⟨ha_0, ha_1, hb_0, hb_1, he_0, he_1, he_2, he_3, hr_0, fr_0, hr_1, fr_1, hp_0, hp_1⟩ := T
        have hla := hla'; clear hla'
        have hlb := hlb'; clear hlb'
        have hle := hle'; clear hle'
        have hlr := hlr'; clear hlr'
        have hlp := hlp'; clear hlp'
        have hna0 : ¬ (w.heap.size = u3.heap.size) := by omega
        have hna1 : ¬ (w.heap.size = u3.heap.size + 1) := by omega
        have hka1 : w.heap.size < u3.heap.size + 1 := by omega
        have hna2 : ¬ (w.heap.size = u3.heap.size + 1 + 1) := by omega
        have hka2 : w.heap.size < u3.heap.size + 1 + 1 := by omega
        have hnb0 : ¬ (w.heap.size + 1 = u3.heap.size) := by omega
        have hkb1 : w.heap.size < u3.heap.size := by omega
        have hne0 : ¬ (w.heap.size + 1 + 1 = u3.heap.size) := by omega
        have hke1 : w.heap.size + 1 < u3.heap.size := by omega
        have hnr0 : ¬ (w.heap.size + 1 + 1 + 1 = u3.heap.size) := by omega
        have hkr1 : w.heap.size + 1 + 1 < u3.heap.size := by omega
        have hnp0 : ¬ (u2.heap.size = u3.heap.size) := by omega
        have hnp1 : ¬ (u2.heap.size = u3.heap.size + 1) := by omega
        have hkp1 : u2.heap.size < u3.heap.size + 1 := by omega
        have hnp2 : ¬ (u2.heap.size = u3.heap.size + 1 + 1) := by omega
        have hkp2 : u2.heap.size < u3.heap.size + 1 + 1 := by omega
        have hB := hB'; clear hB'
        have hsz := hB.size
        go_wp2_with fail
        refine wp_loop_rounds 5 ?_
        iterate 5 (rw [rounds_succ]; go_wp2_with (go_at_call 36; ((with_reducible refine (power_c k (by omega) _).mono ?_); rintro _ _ ⟨rfl, rfl⟩)))
        go_roundw
        case rel =>
          refine ⟨k + 1, by omega, by go_num, by rw [EF.out, GV.out]; simp, by rw [EG.out, GT.out]; simp [may0, may1], ?_⟩
          refine ⟨?_, ?_, ?_, ?_, ?_, ?_, ?_, ?_, ?_, ?_, ?_, ?_, ?_⟩ <;> first | (go_simp; done) | go_grown
        case measure => simp [intOf]; omega
    · have hk8 : k = 8 := by omega
      subst hk8
      rw [mk8_sum, mk8_sum]
      have b1 := u8_lo (mk8 (bothV Bool.and x y))
      have b2 := u8_hi (mk8 (bothV Bool.and x y))
      have b3 := u8_lo (mk8 (bothT Bool.and x t y s))
      have b4 := u8_hi (mk8 (bothT Bool.and x t y s))
      go_wp2
      refine bodyPost_ret (v := TB _ _) (by simp [results, Try.results11, go_sem, hr_0, hr_1]) rfl ⟨rfl, by go_grown⟩

end Go.Proofs.Ytbbiegbfoimcaaa
