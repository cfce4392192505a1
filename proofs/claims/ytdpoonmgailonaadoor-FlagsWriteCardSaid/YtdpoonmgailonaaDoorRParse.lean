/-
  Which register letters are, as the document's answer reads them.
-/
import Derived.Test.YtdpoonmgailonaaDoorRegD
set_option linter.unusedSimpArgs false
set_option linter.unusedVariables false
namespace Go.Proofs.YtdpoonmgailonaaDoor
open Go.RowKit Go.PlainAid

set_option maxHeartbeats 2000000 in
set_option maxRecDepth 100000 in
theorem rparse_c (s : ByteArray) (w : World) : Calls Tryd.prog 19 #[.string s] w fun e w' => e = .returned (.tuple #[TB (pV s) (pT s), .bool (isReg s)]) ∧ Below w.heap.size w w' := by
  by_cases hs : s.size = 8
  · go_enter Tryd.func19, Tryd.ntmps19
    go_wp2
    go_loopw [5] (fun i wr => ∃ k : Nat, k ≤ 8 ∧ i = .int .i64 k ∧ goodTo s k = true ∧ wr.cell? ⟨w.heap.size, 0, none⟩ = some (.int .u8 0) ∧ wr.frozen? ⟨w.heap.size, 0, none⟩ = false ∧ wr.cell? ⟨w.heap.size, 1, none⟩ = some (.int .u8 0) ∧ wr.frozen? ⟨w.heap.size, 1, none⟩ = false ∧ wr.cell? ⟨w.heap.size + 1, 0, none⟩ = some (B8 (accV s k)) ∧ wr.frozen? ⟨w.heap.size + 1, 0, none⟩ = false ∧ wr.cell? ⟨w.heap.size + 1, 1, none⟩ = some (B8 (accT s k)) ∧ wr.frozen? ⟨w.heap.size + 1, 1, none⟩ = false ∧ Below w.heap.size w wr) (fun i _ => 8 - (intOf i).toNat)
    case atStart => exact ⟨0, by omega, rfl, rfl, by go_simp, by go_simp, by go_simp, by go_simp, by go_simp; rfl, by go_simp, by go_simp; rfl, by go_simp, by go_grown⟩
    case round =>
      obtain ⟨k, hk, rfl, hgood, hrel⟩ := hrel
      obtain ⟨hr_0, fr_0, hr_1, fr_1, hp_0, fp_0, hp_1, fp_1, hB⟩ := hrel
      have hsz := hB.size
      have hlr := klt hr_0
      have hlp := klt hp_0
      have hnr0 : ¬ (w.heap.size = wr.heap.size) := by omega
      have hnr1 : ¬ (w.heap.size = wr.heap.size + 1) := by omega
      have hkr1 : w.heap.size < wr.heap.size + 1 := by omega
      have hnr2 : ¬ (w.heap.size = wr.heap.size + 1 + 1) := by omega
      have hkr2 : w.heap.size < wr.heap.size + 1 + 1 := by omega
      have hnp0 : ¬ (w.heap.size + 1 = wr.heap.size) := by omega
      have hkp1 : w.heap.size < wr.heap.size := by omega
      by_cases hlt : k < 8
      · have hlo := lt_lo k hlt
        have hhi := lt_hi k hlt
        have hix := lt_at
        have hb := get_bt s
        have hsk : k < s.size := by omega
        have hw : IntKind.u8.wrap (lt k + 32) = lt k + 32 := by rw [IntKind.wrap_u8]; omega
        rcases way s k hlt with ⟨⟨h1, h2, h3⟩, hok⟩ | ⟨⟨h1, h2, h3⟩, hok⟩ | ⟨⟨h1, h2, h3⟩, hok⟩ | ⟨⟨h1, h2, h3⟩, hok⟩
        · go_wp2_with fail
          ((with_reducible refine (rput_i _ _ _ false true _).mono ?_); rintro _ w2 ⟨rfl, hb⟩)
          have T : w2.cell? ⟨w.heap.size, 0, none⟩ = some (.int .u8 0) ∧ w2.frozen? ⟨w.heap.size, 0, none⟩ = false ∧ w2.cell? ⟨w.heap.size, 1, none⟩ = some (.int .u8 0) ∧ w2.frozen? ⟨w.heap.size, 1, none⟩ = false ∧ w2.cell? ⟨w.heap.size + 1, 0, none⟩ = some (B8 (accV s k)) ∧ w2.frozen? ⟨w.heap.size + 1, 0, none⟩ = false ∧ w2.cell? ⟨w.heap.size + 1, 1, none⟩ = some (B8 (accT s k)) ∧ w2.frozen? ⟨w.heap.size + 1, 1, none⟩ = false := by
              refine ⟨?_, ?_, ?_, ?_, ?_, ?_, ?_, ?_⟩ <;> first | (refine kc hb ?_ <;> (go_simp; first | done | rfl)) | (refine kfz hb ?_ ?_ <;> first | (go_size; done) | (go_simp; done))
          have hz := hb.size
          (try simp only [World.size_alloc, World.size_setCell, World.size_drew] at hz)
          have hlr' : w.heap.size < w2.heap.size := by omega
          have hlp' : w.heap.size + 1 < w2.heap.size := by omega
          have hB' : Below w.heap.size w w2 := by
              refine kb ?_ hb
              go_grown
          clear hr_0 fr_0 hr_1 fr_1 hp_0 fp_0 hp_1 fp_1 hB hsz hlr hlp hnr0 hnr1 hkr1 hnr2 hkr2 hnp0 hkp1
          clear hb hz
          obtain ⟨hr_0, fr_0, hr_1, fr_1, hp_0, fp_0, hp_1, fp_1⟩ := T
          have hlr := hlr'; clear hlr'
          have hlp := hlp'; clear hlp'
          have hnr0 : ¬ (w.heap.size = w2.heap.size) := by omega
          have hnr1 : ¬ (w.heap.size = w2.heap.size + 1) := by omega
          have hkr1 : w.heap.size < w2.heap.size + 1 := by omega
          have hnr2 : ¬ (w.heap.size = w2.heap.size + 1 + 1) := by omega
          have hkr2 : w.heap.size < w2.heap.size + 1 + 1 := by omega
          have hnp0 : ¬ (w.heap.size + 1 = w2.heap.size) := by omega
          have hkp1 : w.heap.size < w2.heap.size := by omega
          have hB := hB'; clear hB'
          have hsz := hB.size
          go_wp2
          go_roundw
          case rel => exact ⟨k + 1, by omega, by go_num, by show (goodTo s k && okAt s k) = true; rw [hgood, hok]; rfl, by go_simp, by go_simp, by go_simp, by go_simp, by go_simp; show u8 _ = u8 (setI (accV s k) (7 - k) (bt s k == lt k)); rw [h2], by go_simp, by go_simp; show u8 _ = u8 (setI (accT s k) (7 - k) (bt s k == 63)); rw [h1], by go_simp, by go_grown⟩
          case measure => simp [intOf]; omega
        · have _h := hlo
          have k1 : ¬ (w.heap.size + 1 = wr.heap.size) := by omega
          have k2 : ¬ (wr.heap.size = w.heap.size + 1) := by omega
          have k3 : ¬ (w.heap.size = wr.heap.size) := by omega
          have k5 : w.heap.size ≤ wr.heap.size := by omega
          have k4 : ¬ (wr.heap.size = w.heap.size) := by omega
          go_wp2_with fail
          refine wp_region_plan (fun w' => w'.cell? ⟨w.heap.size, 0, none⟩ = some (.int .u8 0) ∧ w'.frozen? ⟨w.heap.size, 0, none⟩ = false ∧ w'.cell? ⟨w.heap.size, 1, none⟩ = some (.int .u8 0) ∧ w'.frozen? ⟨w.heap.size, 1, none⟩ = false ∧ w'.cell? ⟨w.heap.size + 1, 0, none⟩ = some (B8 (accV s k)) ∧ w'.frozen? ⟨w.heap.size + 1, 0, none⟩ = false ∧ w'.cell? ⟨w.heap.size + 1, 1, none⟩ = some (B8 (accT s k)) ∧ w'.frozen? ⟨w.heap.size + 1, 1, none⟩ = false ∧ w'.cell? ⟨wr.heap.size, 0, none⟩ = some (.bool false) ∧ w'.frozen? ⟨wr.heap.size, 0, none⟩ = false ∧ w'.cell? ⟨wr.heap.size, 1, none⟩ = some (.bool false) ∧ w'.frozen? ⟨wr.heap.size, 1, none⟩ = false ∧ Below w.heap.size w w') (by kernel_rfl) (by kernel_rfl) (by kernel_rfl) ?_ ?_
          · (try dsimp only)
            refine ⟨?_, ?_, ?_, ?_, ?_, ?_, ?_, ?_, ?_, ?_, ?_, ?_, ?_⟩ <;> first | (go_simp; done) | (simp [*]; done) | go_grown
          repeat (first
            | (refine Plan.val (v := ?_) ?_ ?_ ?_; rotate_left; (· rfl); (· (intro W hSw; (try dsimp only at hSw); go_simp; all_goals (first | (with_reducible rfl) | (constructor <;> (with_reducible rfl))))); (try simp only [Act.put, List.setIfInBounds_toArray, List.set_cons_zero, List.set_cons_succ]))
            | (refine Plan.no ?_ ?_; (· rfl); (try simp only [Act.put, List.setIfInBounds_toArray, List.set_cons_zero, List.set_cons_succ])))
          refine Plan.done ?_
          intro w1 T
          (try dsimp only at T)
          clear hr_0 fr_0 hr_1 fr_1 hp_0 fp_0 hp_1 fp_1 hB hsz hlr hlp hnr0 hnr1 hkr1 hnr2 hkr2 hnp0 hkp1
          obtain ⟨hr_0, fr_0, hr_1, fr_1, hp_0, fp_0, hp_1, fp_1, hb_0, fb_0, hb_1, fb_1, hB⟩ := T
          have hsz := hB.size
          have hlr := klt hr_0
          have hlp := klt hp_0
          have hlb := klt hb_0
          have hnr0 : ¬ (w.heap.size = w1.heap.size) := by omega
          have hnr1 : ¬ (w.heap.size = w1.heap.size + 1) := by omega
          have hkr1 : w.heap.size < w1.heap.size + 1 := by omega
          have hnr2 : ¬ (w.heap.size = w1.heap.size + 1 + 1) := by omega
          have hkr2 : w.heap.size < w1.heap.size + 1 + 1 := by omega
          have hnp0 : ¬ (w.heap.size + 1 = w1.heap.size) := by omega
          have hkp1 : w.heap.size < w1.heap.size := by omega
          have hnb0 : ¬ (wr.heap.size = w1.heap.size) := by omega
          have hnb1 : ¬ (wr.heap.size = w1.heap.size + 1) := by omega
          have hkb1 : wr.heap.size < w1.heap.size + 1 := by omega
          have hnb2 : ¬ (wr.heap.size = w1.heap.size + 1 + 1) := by omega
          have hkb2 : wr.heap.size < w1.heap.size + 1 + 1 := by omega
          go_wp2_with fail
          ((with_reducible refine (rput_i _ _ _ true false _).mono ?_); rintro _ w2 ⟨rfl, hb⟩)
          have T : w2.cell? ⟨w.heap.size, 0, none⟩ = some (.int .u8 0) ∧ w2.frozen? ⟨w.heap.size, 0, none⟩ = false ∧ w2.cell? ⟨w.heap.size, 1, none⟩ = some (.int .u8 0) ∧ w2.frozen? ⟨w.heap.size, 1, none⟩ = false ∧ w2.cell? ⟨w.heap.size + 1, 0, none⟩ = some (B8 (accV s k)) ∧ w2.frozen? ⟨w.heap.size + 1, 0, none⟩ = false ∧ w2.cell? ⟨w.heap.size + 1, 1, none⟩ = some (B8 (accT s k)) ∧ w2.frozen? ⟨w.heap.size + 1, 1, none⟩ = false := by
              refine ⟨?_, ?_, ?_, ?_, ?_, ?_, ?_, ?_⟩ <;> first | (refine kc hb ?_ <;> (go_simp; first | done | rfl)) | (refine kfz hb ?_ ?_ <;> first | (go_size; done) | (go_simp; done))
          have hz := hb.size
          (try simp only [World.size_alloc, World.size_setCell, World.size_drew] at hz)
          have hlr' : w.heap.size < w2.heap.size := by omega
          have hlp' : w.heap.size + 1 < w2.heap.size := by omega
          have hB' : Below w.heap.size w w2 := by
              refine kb ?_ hb
              go_grown
          clear hr_0 fr_0 hr_1 fr_1 hp_0 fp_0 hp_1 fp_1 hb_0 fb_0 hb_1 fb_1 hB hsz hlr hlp hlb hnr0 hnr1 hkr1 hnr2 hkr2 hnp0 hkp1 hnb0 hnb1 hkb1 hnb2 hkb2
          clear hb hz
          obtain ⟨hr_0, fr_0, hr_1, fr_1, hp_0, fp_0, hp_1, fp_1⟩ := T
          have hlr := hlr'; clear hlr'
          have hlp := hlp'; clear hlp'
          have hnr0 : ¬ (w.heap.size = w2.heap.size) := by omega
          have hnr1 : ¬ (w.heap.size = w2.heap.size + 1) := by omega
          have hkr1 : w.heap.size < w2.heap.size + 1 := by omega
          have hnr2 : ¬ (w.heap.size = w2.heap.size + 1 + 1) := by omega
          have hkr2 : w.heap.size < w2.heap.size + 1 + 1 := by omega
          have hnp0 : ¬ (w.heap.size + 1 = w2.heap.size) := by omega
          have hkp1 : w.heap.size < w2.heap.size := by omega
          have hB := hB'; clear hB'
          have hsz := hB.size
          go_wp2
          go_roundw
          case rel => exact ⟨k + 1, by omega, by go_num, by show (goodTo s k && okAt s k) = true; rw [hgood, hok]; rfl, by go_simp, by go_simp, by go_simp, by go_simp, by go_simp; show u8 _ = u8 (setI (accV s k) (7 - k) (bt s k == lt k)); rw [h2], by go_simp, by go_simp; show u8 _ = u8 (setI (accT s k) (7 - k) (bt s k == 63)); rw [h1], by go_simp, by go_grown⟩
          case measure => simp [intOf]; omega
        · have _h := hlo
          have k1 : ¬ (w.heap.size + 1 = wr.heap.size) := by omega
          have k2 : ¬ (wr.heap.size = w.heap.size + 1) := by omega
          have k3 : ¬ (w.heap.size = wr.heap.size) := by omega
          have k5 : w.heap.size ≤ wr.heap.size := by omega
          have k4 : ¬ (wr.heap.size = w.heap.size) := by omega
          go_wp2_with fail
          refine wp_region_plan (fun w' => w'.cell? ⟨w.heap.size, 0, none⟩ = some (.int .u8 0) ∧ w'.frozen? ⟨w.heap.size, 0, none⟩ = false ∧ w'.cell? ⟨w.heap.size, 1, none⟩ = some (.int .u8 0) ∧ w'.frozen? ⟨w.heap.size, 1, none⟩ = false ∧ w'.cell? ⟨w.heap.size + 1, 0, none⟩ = some (B8 (accV s k)) ∧ w'.frozen? ⟨w.heap.size + 1, 0, none⟩ = false ∧ w'.cell? ⟨w.heap.size + 1, 1, none⟩ = some (B8 (accT s k)) ∧ w'.frozen? ⟨w.heap.size + 1, 1, none⟩ = false ∧ w'.cell? ⟨wr.heap.size, 0, none⟩ = some (.bool false) ∧ w'.frozen? ⟨wr.heap.size, 0, none⟩ = false ∧ w'.cell? ⟨wr.heap.size, 1, none⟩ = some (.bool false) ∧ w'.frozen? ⟨wr.heap.size, 1, none⟩ = false ∧ Below w.heap.size w w') (by kernel_rfl) (by kernel_rfl) (by kernel_rfl) ?_ ?_
          · (try dsimp only)
            refine ⟨?_, ?_, ?_, ?_, ?_, ?_, ?_, ?_, ?_, ?_, ?_, ?_, ?_⟩ <;> first | (go_simp; done) | (simp [*]; done) | go_grown
          repeat (first
            | (refine Plan.val (v := ?_) ?_ ?_ ?_; rotate_left; (· rfl); (· (intro W hSw; (try dsimp only at hSw); go_simp; all_goals (first | (with_reducible rfl) | (constructor <;> (with_reducible rfl))))); (try simp only [Act.put, List.setIfInBounds_toArray, List.set_cons_zero, List.set_cons_succ]))
            | (refine Plan.no ?_ ?_; (· rfl); (try simp only [Act.put, List.setIfInBounds_toArray, List.set_cons_zero, List.set_cons_succ])))
          refine Plan.done ?_
          intro w1 T
          (try dsimp only at T)
          clear hr_0 fr_0 hr_1 fr_1 hp_0 fp_0 hp_1 fp_1 hB hsz hlr hlp hnr0 hnr1 hkr1 hnr2 hkr2 hnp0 hkp1
          obtain ⟨hr_0, fr_0, hr_1, fr_1, hp_0, fp_0, hp_1, fp_1, hb_0, fb_0, hb_1, fb_1, hB⟩ := T
          have hsz := hB.size
          have hlr := klt hr_0
          have hlp := klt hp_0
          have hlb := klt hb_0
          have hnr0 : ¬ (w.heap.size = w1.heap.size) := by omega
          have hnr1 : ¬ (w.heap.size = w1.heap.size + 1) := by omega
          have hkr1 : w.heap.size < w1.heap.size + 1 := by omega
          have hnr2 : ¬ (w.heap.size = w1.heap.size + 1 + 1) := by omega
          have hkr2 : w.heap.size < w1.heap.size + 1 + 1 := by omega
          have hnp0 : ¬ (w.heap.size + 1 = w1.heap.size) := by omega
          have hkp1 : w.heap.size < w1.heap.size := by omega
          have hnb0 : ¬ (wr.heap.size = w1.heap.size) := by omega
          have hnb1 : ¬ (wr.heap.size = w1.heap.size + 1) := by omega
          have hkb1 : wr.heap.size < w1.heap.size + 1 := by omega
          have hnb2 : ¬ (wr.heap.size = w1.heap.size + 1 + 1) := by omega
          have hkb2 : wr.heap.size < w1.heap.size + 1 + 1 := by omega
          go_wp2_with fail
          refine wp_region_plan (fun w' => w'.cell? ⟨w.heap.size, 0, none⟩ = some (.int .u8 0) ∧ w'.frozen? ⟨w.heap.size, 0, none⟩ = false ∧ w'.cell? ⟨w.heap.size, 1, none⟩ = some (.int .u8 0) ∧ w'.frozen? ⟨w.heap.size, 1, none⟩ = false ∧ w'.cell? ⟨w.heap.size + 1, 0, none⟩ = some (B8 (accV s k)) ∧ w'.frozen? ⟨w.heap.size + 1, 0, none⟩ = false ∧ w'.cell? ⟨w.heap.size + 1, 1, none⟩ = some (B8 (accT s k)) ∧ w'.frozen? ⟨w.heap.size + 1, 1, none⟩ = false ∧ w'.cell? ⟨wr.heap.size, 0, none⟩ = some (.bool false) ∧ w'.frozen? ⟨wr.heap.size, 0, none⟩ = false ∧ w'.cell? ⟨wr.heap.size, 1, none⟩ = some (.bool false) ∧ w'.frozen? ⟨wr.heap.size, 1, none⟩ = false ∧ Below w.heap.size w w') (by kernel_rfl) (by kernel_rfl) (by kernel_rfl) ?_ ?_
          · (try dsimp only)
            refine ⟨?_, ?_, ?_, ?_, ?_, ?_, ?_, ?_, ?_, ?_, ?_, ?_, ?_⟩ <;> first | (go_simp; done) | (simp [*]; done) | go_grown
          repeat (first
            | (refine Plan.val (v := ?_) ?_ ?_ ?_; rotate_left; (· rfl); (· (intro W hSw; (try dsimp only at hSw); go_simp; all_goals (first | (with_reducible rfl) | (constructor <;> (with_reducible rfl))))); (try simp only [Act.put, List.setIfInBounds_toArray, List.set_cons_zero, List.set_cons_succ]))
            | (refine Plan.no ?_ ?_; (· rfl); (try simp only [Act.put, List.setIfInBounds_toArray, List.set_cons_zero, List.set_cons_succ])))
          refine Plan.done ?_
          intro w3 T
          (try dsimp only at T)
          clear hr_0 fr_0 hr_1 fr_1 hp_0 fp_0 hp_1 fp_1 hb_0 fb_0 hb_1 fb_1 hB hsz hlr hlp hlb hnr0 hnr1 hkr1 hnr2 hkr2 hnp0 hkp1 hnb0 hnb1 hkb1 hnb2 hkb2
          obtain ⟨hr_0, fr_0, hr_1, fr_1, hp_0, fp_0, hp_1, fp_1, hb_0, fb_0, hb_1, fb_1, hB⟩ := T
          have hsz := hB.size
          have hlr := klt hr_0
          have hlp := klt hp_0
          have hlb := klt hb_0
          have hnr0 : ¬ (w.heap.size = w3.heap.size) := by omega
          have hnr1 : ¬ (w.heap.size = w3.heap.size + 1) := by omega
          have hkr1 : w.heap.size < w3.heap.size + 1 := by omega
          have hnr2 : ¬ (w.heap.size = w3.heap.size + 1 + 1) := by omega
          have hkr2 : w.heap.size < w3.heap.size + 1 + 1 := by omega
          have hnp0 : ¬ (w.heap.size + 1 = w3.heap.size) := by omega
          have hkp1 : w.heap.size < w3.heap.size := by omega
          have hnb0 : ¬ (wr.heap.size = w3.heap.size) := by omega
          have hnb1 : ¬ (wr.heap.size = w3.heap.size + 1) := by omega
          have hkb1 : wr.heap.size < w3.heap.size + 1 := by omega
          have hnb2 : ¬ (wr.heap.size = w3.heap.size + 1 + 1) := by omega
          have hkb2 : wr.heap.size < w3.heap.size + 1 + 1 := by omega
          go_wp2_with fail
          ((with_reducible refine (rput_i _ _ _ false false _).mono ?_); rintro _ w2 ⟨rfl, hb⟩)
          have T : w2.cell? ⟨w.heap.size, 0, none⟩ = some (.int .u8 0) ∧ w2.frozen? ⟨w.heap.size, 0, none⟩ = false ∧ w2.cell? ⟨w.heap.size, 1, none⟩ = some (.int .u8 0) ∧ w2.frozen? ⟨w.heap.size, 1, none⟩ = false ∧ w2.cell? ⟨w.heap.size + 1, 0, none⟩ = some (B8 (accV s k)) ∧ w2.frozen? ⟨w.heap.size + 1, 0, none⟩ = false ∧ w2.cell? ⟨w.heap.size + 1, 1, none⟩ = some (B8 (accT s k)) ∧ w2.frozen? ⟨w.heap.size + 1, 1, none⟩ = false := by
              refine ⟨?_, ?_, ?_, ?_, ?_, ?_, ?_, ?_⟩ <;> first | (refine kc hb ?_ <;> (go_simp; first | done | rfl)) | (refine kfz hb ?_ ?_ <;> first | (go_size; done) | (go_simp; done))
          have hz := hb.size
          (try simp only [World.size_alloc, World.size_setCell, World.size_drew] at hz)
          have hlr' : w.heap.size < w2.heap.size := by omega
          have hlp' : w.heap.size + 1 < w2.heap.size := by omega
          have hB' : Below w.heap.size w w2 := by
              refine kb ?_ hb
              go_grown
          clear hr_0 fr_0 hr_1 fr_1 hp_0 fp_0 hp_1 fp_1 hb_0 fb_0 hb_1 fb_1 hB hsz hlr hlp hlb hnr0 hnr1 hkr1 hnr2 hkr2 hnp0 hkp1 hnb0 hnb1 hkb1 hnb2 hkb2
          clear hb hz
          obtain ⟨hr_0, fr_0, hr_1, fr_1, hp_0, fp_0, hp_1, fp_1⟩ := T
          have hlr := hlr'; clear hlr'
          have hlp := hlp'; clear hlp'
          have hnr0 : ¬ (w.heap.size = w2.heap.size) := by omega
          have hnr1 : ¬ (w.heap.size = w2.heap.size + 1) := by omega
          have hkr1 : w.heap.size < w2.heap.size + 1 := by omega
          have hnr2 : ¬ (w.heap.size = w2.heap.size + 1 + 1) := by omega
          have hkr2 : w.heap.size < w2.heap.size + 1 + 1 := by omega
          have hnp0 : ¬ (w.heap.size + 1 = w2.heap.size) := by omega
          have hkp1 : w.heap.size < w2.heap.size := by omega
          have hB := hB'; clear hB'
          have hsz := hB.size
          go_wp2
          go_roundw
          case rel => exact ⟨k + 1, by omega, by go_num, by show (goodTo s k && okAt s k) = true; rw [hgood, hok]; rfl, by go_simp, by go_simp, by go_simp, by go_simp, by go_simp; show u8 _ = u8 (setI (accV s k) (7 - k) (bt s k == lt k)); rw [h2], by go_simp, by go_simp; show u8 _ = u8 (setI (accT s k) (7 - k) (bt s k == 63)); rw [h1], by go_simp, by go_grown⟩
          case measure => simp [intOf]; omega
        · have _h := hlo
          have k1 : ¬ (w.heap.size + 1 = wr.heap.size) := by omega
          have k2 : ¬ (wr.heap.size = w.heap.size + 1) := by omega
          have k3 : ¬ (w.heap.size = wr.heap.size) := by omega
          have k5 : w.heap.size ≤ wr.heap.size := by omega
          have k4 : ¬ (wr.heap.size = w.heap.size) := by omega
          have hn := not_reg_at k hlt hok
          go_wp2_with fail
          refine wp_region_plan (fun w' => w'.cell? ⟨w.heap.size, 0, none⟩ = some (.int .u8 0) ∧ w'.frozen? ⟨w.heap.size, 0, none⟩ = false ∧ w'.cell? ⟨w.heap.size, 1, none⟩ = some (.int .u8 0) ∧ w'.frozen? ⟨w.heap.size, 1, none⟩ = false ∧ w'.cell? ⟨w.heap.size + 1, 0, none⟩ = some (B8 (accV s k)) ∧ w'.frozen? ⟨w.heap.size + 1, 0, none⟩ = false ∧ w'.cell? ⟨w.heap.size + 1, 1, none⟩ = some (B8 (accT s k)) ∧ w'.frozen? ⟨w.heap.size + 1, 1, none⟩ = false ∧ w'.cell? ⟨wr.heap.size, 0, none⟩ = some (.bool false) ∧ w'.frozen? ⟨wr.heap.size, 0, none⟩ = false ∧ w'.cell? ⟨wr.heap.size, 1, none⟩ = some (.bool false) ∧ w'.frozen? ⟨wr.heap.size, 1, none⟩ = false ∧ Below w.heap.size w w') (by kernel_rfl) (by kernel_rfl) (by kernel_rfl) ?_ ?_
          · (try dsimp only)
            refine ⟨?_, ?_, ?_, ?_, ?_, ?_, ?_, ?_, ?_, ?_, ?_, ?_, ?_⟩ <;> first | (go_simp; done) | (simp [*]; done) | go_grown
          repeat (first
            | (refine Plan.val (v := ?_) ?_ ?_ ?_; rotate_left; (· rfl); (· (intro W hSw; (try dsimp only at hSw); go_simp; all_goals (first | (with_reducible rfl) | (constructor <;> (with_reducible rfl))))); (try simp only [Act.put, List.setIfInBounds_toArray, List.set_cons_zero, List.set_cons_succ]))
            | (refine Plan.no ?_ ?_; (· rfl); (try simp only [Act.put, List.setIfInBounds_toArray, List.set_cons_zero, List.set_cons_succ])))
          refine Plan.done ?_
          intro w1 T
          (try dsimp only at T)
          clear hr_0 fr_0 hr_1 fr_1 hp_0 fp_0 hp_1 fp_1 hB hsz hlr hlp hnr0 hnr1 hkr1 hnr2 hkr2 hnp0 hkp1
          obtain ⟨hr_0, fr_0, hr_1, fr_1, hp_0, fp_0, hp_1, fp_1, hb_0, fb_0, hb_1, fb_1, hB⟩ := T
          have hsz := hB.size
          have hlr := klt hr_0
          have hlp := klt hp_0
          have hlb := klt hb_0
          have hnr0 : ¬ (w.heap.size = w1.heap.size) := by omega
          have hnr1 : ¬ (w.heap.size = w1.heap.size + 1) := by omega
          have hkr1 : w.heap.size < w1.heap.size + 1 := by omega
          have hnr2 : ¬ (w.heap.size = w1.heap.size + 1 + 1) := by omega
          have hkr2 : w.heap.size < w1.heap.size + 1 + 1 := by omega
          have hnp0 : ¬ (w.heap.size + 1 = w1.heap.size) := by omega
          have hkp1 : w.heap.size < w1.heap.size := by omega
          have hnb0 : ¬ (wr.heap.size = w1.heap.size) := by omega
          have hnb1 : ¬ (wr.heap.size = w1.heap.size + 1) := by omega
          have hkb1 : wr.heap.size < w1.heap.size + 1 := by omega
          have hnb2 : ¬ (wr.heap.size = w1.heap.size + 1 + 1) := by omega
          have hkb2 : wr.heap.size < w1.heap.size + 1 + 1 := by omega
          go_wp2_with fail
          refine wp_region_plan (fun w' => w'.cell? ⟨w.heap.size, 0, none⟩ = some (.int .u8 0) ∧ w'.frozen? ⟨w.heap.size, 0, none⟩ = false ∧ w'.cell? ⟨w.heap.size, 1, none⟩ = some (.int .u8 0) ∧ w'.frozen? ⟨w.heap.size, 1, none⟩ = false ∧ w'.cell? ⟨w.heap.size + 1, 0, none⟩ = some (B8 (accV s k)) ∧ w'.frozen? ⟨w.heap.size + 1, 0, none⟩ = false ∧ w'.cell? ⟨w.heap.size + 1, 1, none⟩ = some (B8 (accT s k)) ∧ w'.frozen? ⟨w.heap.size + 1, 1, none⟩ = false ∧ w'.cell? ⟨wr.heap.size, 0, none⟩ = some (.bool false) ∧ w'.frozen? ⟨wr.heap.size, 0, none⟩ = false ∧ w'.cell? ⟨wr.heap.size, 1, none⟩ = some (.bool false) ∧ w'.frozen? ⟨wr.heap.size, 1, none⟩ = false ∧ Below w.heap.size w w') (by kernel_rfl) (by kernel_rfl) (by kernel_rfl) ?_ ?_
          · (try dsimp only)
            refine ⟨?_, ?_, ?_, ?_, ?_, ?_, ?_, ?_, ?_, ?_, ?_, ?_, ?_⟩ <;> first | (go_simp; done) | (simp [*]; done) | go_grown
          repeat (first
            | (refine Plan.val (v := ?_) ?_ ?_ ?_; rotate_left; (· rfl); (· (intro W hSw; (try dsimp only at hSw); go_simp; all_goals (first | (with_reducible rfl) | (constructor <;> (with_reducible rfl))))); (try simp only [Act.put, List.setIfInBounds_toArray, List.set_cons_zero, List.set_cons_succ]))
            | (refine Plan.no ?_ ?_; (· rfl); (try simp only [Act.put, List.setIfInBounds_toArray, List.set_cons_zero, List.set_cons_succ])))
          refine Plan.done ?_
          intro w3 T
          (try dsimp only at T)
          clear hr_0 fr_0 hr_1 fr_1 hp_0 fp_0 hp_1 fp_1 hb_0 fb_0 hb_1 fb_1 hB hsz hlr hlp hlb hnr0 hnr1 hkr1 hnr2 hkr2 hnp0 hkp1 hnb0 hnb1 hkb1 hnb2 hkb2
          obtain ⟨hr_0, fr_0, hr_1, fr_1, hp_0, fp_0, hp_1, fp_1, hb_0, fb_0, hb_1, fb_1, hB⟩ := T
          have hsz := hB.size
          have hlr := klt hr_0
          have hlp := klt hp_0
          have hlb := klt hb_0
          have hnr0 : ¬ (w.heap.size = w3.heap.size) := by omega
          have hnr1 : ¬ (w.heap.size = w3.heap.size + 1) := by omega
          have hkr1 : w.heap.size < w3.heap.size + 1 := by omega
          have hnr2 : ¬ (w.heap.size = w3.heap.size + 1 + 1) := by omega
          have hkr2 : w.heap.size < w3.heap.size + 1 + 1 := by omega
          have hnp0 : ¬ (w.heap.size + 1 = w3.heap.size) := by omega
          have hkp1 : w.heap.size < w3.heap.size := by omega
          have hnb0 : ¬ (wr.heap.size = w3.heap.size) := by omega
          have hnb1 : ¬ (wr.heap.size = w3.heap.size + 1) := by omega
          have hkb1 : wr.heap.size < w3.heap.size + 1 := by omega
          have hnb2 : ¬ (wr.heap.size = w3.heap.size + 1 + 1) := by omega
          have hkb2 : wr.heap.size < w3.heap.size + 1 + 1 := by omega
          go_wp2
          refine bodyPost_ret (v := .tuple #[TB 0#8 0#8, .bool false]) (by simp [results, Tryd.results19, go_sem, hr_0, hr_1] <;> first | done | rfl) rfl ⟨by rw [pV_no hn, pT_no hn, hn], by go_grown⟩
      · have hk8 : k = 8 := by omega
        subst hk8
        have hreg := is_reg hs hgood
        go_wp2
        refine bodyPost_ret (v := .tuple #[TB (accV s 8) (accT s 8), .bool true]) (by simp [results, Tryd.results19, go_sem, hr_0, hr_1] <;> first | done | rfl) rfl ⟨by rw [pV_yes hreg, pT_yes hreg, hreg], by go_grown⟩
  · have hn := not_reg_size hs
    go_enter Tryd.func19, Tryd.ntmps19
    go_wp2
    refine bodyPost_ret (v := .tuple #[TB 0#8 0#8, .bool false]) (by simp [results, Tryd.results19, go_sem] <;> first | done | rfl) rfl ⟨by rw [pV_no hn, pT_no hn, hn], by go_grown⟩
end Go.Proofs.YtdpoonmgailonaaDoor
