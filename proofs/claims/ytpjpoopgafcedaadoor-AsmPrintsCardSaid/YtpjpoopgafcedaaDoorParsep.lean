/-
  Layer 5, the program: Parse.
-/
import Derived.Test.YtpjpoopgafcedaaDoorByteR
import Derived.Test.YtpjpoopgafcedaaDoorCheck
import Derived.Laws.Rows
set_option linter.unusedSimpArgs false
set_option linter.unusedVariables false
namespace Go.Proofs.YtpjpoopgafcedaaDoor
open Go.RowKit Go.PlainAid

set_option maxRecDepth 100000 in
set_option maxHeartbeats 1000000 in
theorem hasname_c (l : List UInt8) (w : World) : Calls Tryd.prog 33 #[.string (txB l)] w fun e w' => e = .returned (.bool (isText l)) ∧ w = w' := by
  have hz := txB_size l
  by_cases h : l.length < 3
  · have hi : isText l = false := by unfold isText; rw [decide_eq_true h]; rfl
    have hd : decide ((l.length : Int) < 3) = true := decide_eq_true (by omega)
    rw [hi]
    generalize txB l = S at *
    go_enter Tryd.func33, Tryd.ntmps33
    go_wp2
    go_ret
    exact ⟨rfl, rfl⟩
  · have hi : isText l = greatL l := by unfold isText; rw [decide_eq_false h]; rfl
    have hb : (greatI (bt (txB l) 0) && (greatI (bt (txB l) 1) && greatI (bt (txB l) 2))) = isText l := by
      rw [hi, bt_list (txB l) l rfl, bt_list (txB l) l rfl, bt_list (txB l) l rfl]; rfl
    have hd : decide ((l.length : Int) < 3) = false := decide_eq_false (by omega)
    have HX := Lib.hid (fun k h i hi W => ix_at (txB l) k h i hi W)
    rw [← hb]
    generalize txB l = S at *
    have HG := Lib.hid (fun k => show greatI (bt S k) = (!decide (bt S k < 65) && !decide (90 < bt S k)) from rfl)
    clear hb hi
    go_enter Tryd.func33, Tryd.ntmps33
    go_wp2
    go_loopw [7] (fun i wr => ∃ k : Nat, k ≤ 3 ∧ i = .int .i64 k ∧ Hid (∀ n, n < k → greatI (bt S n) = true) ∧ w = wr) (fun i _ => 3 - (intOf i).toNat)
    case atStart => exact ⟨0, by omega, rfl, Lib.hid (fun n h => by omega), rfl⟩
    case round =>
      obtain ⟨k, hk, rfl, HN, rfl⟩ := hrel
      by_cases hlt : k < 3
      · have hd3 : decide ((k : Int) < 3) = true := decide_eq_true (by omega)
        have q := HX.out k (by omega) k rfl
        have hg := HG.out k
        have HF := Lib.hid (fun (h : greatI (bt S k) = false) => show (greatI (bt S 0) && (greatI (bt S 1) && greatI (bt S 2))) = false from by
          rcases (show k = 0 ∨ k = 1 ∨ k = 2 by omega) with rfl | rfl | rfl <;> rw [h] <;> simp)
        have HS := Lib.hid (fun (h : greatI (bt S k) = true) (n : Nat) (hn : n < k + 1) => show greatI (bt S n) = true from by
          by_cases e : n = k
          · rw [e]; exact h
          · exact HN.out n (by omega))
        generalize bt S k = B at *
        cases b1 : decide (B < 65)
        · cases b2 : decide (90 < B)
          · rw [b1, b2] at hg
            have HS2 := Lib.hid (HS.out hg)
            clear HF HS hg
            go_wp2
            go_roundw
            case rel => exact ⟨k + 1, by omega, by go_num, HS2, trivial⟩
            case measure => simp [intOf]; omega
          · rw [b1, b2] at hg
            have HF2 := Lib.hid (HF.out hg)
            clear HF HS hg
            go_wp2
            go_ret
            exact ⟨ret_bool HF2.out.symm, rfl⟩
        · rw [b1] at hg
          have HF2 := Lib.hid (HF.out hg)
          clear HF HS hg
          go_wp2
          go_ret
          exact ⟨ret_bool HF2.out.symm, rfl⟩
      · have hk3 : k = 3 := by omega
        subst hk3
        have HV := Lib.hid (show (greatI (bt S 0) && (greatI (bt S 1) && greatI (bt S 2))) = true from by rw [HN.out 0 (by omega), HN.out 1 (by omega), HN.out 2 (by omega)]; rfl)
        go_wp2
        go_ret
        exact ⟨ret_bool HV.out.symm, rfl⟩
theorem info_ars : (Tryd.prog.info? 63).map (·.size) = some 39 := by kernel_rfl
theorem arA_row (m : Nat) (hm : m < 13) : arA.extract (m * 3) (m * 3 + 3) = #[.string (txB (befP m)), .int .i64 (dgP m), .string (txB (aftP m))] := by
  have h1 : m = 0 ∨ m = 1 ∨ m = 2 ∨ m = 3 ∨ m = 4 ∨ m = 5 ∨ m = 6 ∨ m = 7 ∨ m = 8 ∨ m = 9 ∨ m = 10 ∨ m = 11 ∨ m = 12 := by omega
  rcases h1 with rfl | rfl | rfl | rfl | rfl | rfl | rfl | rfl | rfl | rfl | rfl | rfl | rfl <;> rfl
theorem run_ars_index (m : Nat) (hm : m < 13) (w : World) : (Instr.index 63 (.agg arA) (.int .i64 m)).run Tryd.prog w = .ok (arV (befP m) (dgP m) (aftP m)) w := by
  have h := arA_row m hm
  unfold arV
  generalize arA = A at *
  have hi : (0 : Int) ≤ (m : Int) ∧ (m : Int) < (13 : Nat) := by omega
  have hi' : ¬ 13 ≤ m := by omega
  simp [Instr.index, run_underlying under_ars, asIntOf, hi, hi', part, agg_ar, size_ar, go_sem, h]
end Go.Proofs.YtpjpoopgafcedaaDoor
