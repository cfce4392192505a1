/-
  Layer 5's document: which number is written behind a name, in a mode.
-/
import Derived.Test.YtpjpoopgafcedaaGreatDoorNum
import Derived.Test.YtpjpoopgafcedaaGreatDoorText
set_option linter.unusedSimpArgs false
set_option linter.unusedVariables false
namespace Go.Proofs.YtpjpoopgafcedaaGreatDoor
open Go.RowKit Go.PlainAid

set_option maxRecDepth 100000 in
set_option maxHeartbeats 2000000 in
theorem writ_mode (S T U C P1 P2 P3 : ByteArray) (k v Z V : Int) (X b1 b2 b3 : Bool) (la lc tA : Nat) (h0 : (k == 0) = false) (h1 : (k == 1) = false) (hX : (X = true ∧ Z = 4) ∨ (X = false ∧ Z = 2))
    (hA : ∀ w, Calls Tryz.prog 37 #[.int .i64 k] w fun e w' => e = .returned (.tuple #[.string T, .string C]) ∧ w = w')
    (hW : ∀ w, Calls Tryz.prog 38 #[.int .i64 k] w fun e w' => e = .returned (.bool X) ∧ w = w')
    (hcat : ({ data := #[32] } : ByteArray) ++ T = U) (hT : T.size = tA) (hU : U.size = la) (hC : C.size = lc) (hta : tA ≤ 10) (hla : la ≤ 10) (hlc : lc ≤ 10)
    (e1 : ((S.size : Int) == (la : Int) + Z + (lc : Int)) = b1)
    (q1 : b1 = true → ∀ W, (Instr.slice 9 (.string S) none (some (.int .i64 (la : Int))) none).run Tryz.prog W = .ok (.string P1) W)
    (q2 : b1 = true → ∀ W, (Instr.slice 9 (.string S) (some (.int .i64 ((la : Int) + Z))) none none).run Tryz.prog W = .ok (.string P2) W)
    (q3 : b1 = true → ∀ W, (Instr.slice 9 (.string S) (some (.int .i64 (la : Int))) (some (.int .i64 ((la : Int) + Z))) none).run Tryz.prog W = .ok (.string P3) W)
    (e2 : (P1.toList == U.toList) = b2) (e3 : (P2.toList == C.toList) = b3)
    (hN : b1 = true → ∀ w, Calls Tryz.prog 39 #[.string P3] w fun e w' => e = .returned (.int .i64 v) ∧ w = w')
    (hV : (if b1 && (b2 && b3) then v else -1) = V) (w : World) :
    Calls Tryz.prog 22 #[.string S, .int .i64 k] w fun e w' => e = .returned (.int .i64 V) ∧ w = w' := by
  have HA := Lib.hid hA
  have HW := Lib.hid hW
  have hnl : ¬ 9223372036854775807 < 1 + tA := by omega
  have f1 : ((S.size : Int) != (la : Int) + Z + (lc : Int)) = !b1 := by unfold bne; rw [e1]
  have f2 : (P1.toList != U.toList) = !b2 := by unfold bne; rw [e2]
  have f3 : (P2.toList != C.toList) = !b3 := by unfold bne; rw [e3]
  have w1 : IntKind.i64.wrap ((la : Int) + Z) = (la : Int) + Z := IntWalk.i64_in _ (by omega)
  have w2 : IntKind.i64.wrap ((la : Int) + Z + (lc : Int)) = (la : Int) + Z + (lc : Int) := IntWalk.i64_in _ (by omega)
  clear hA hW hta hla hlc
  cases b1
  · subst hV
    clear q1 q2 q3 hN e2 e3 f2 f3
    rcases hX with ⟨rfl, rfl⟩ | ⟨rfl, rfl⟩
    all_goals
      go_enter Tryz.func22, Tryz.ntmps22
      go_wp2_with (first | (go_at_call 38; (with_reducible refine (HW.out _).mono ?_); rintro _ _ ⟨rfl, rfl⟩) | (go_at_call 37; (with_reducible refine (HA.out _).mono ?_); rintro _ _ ⟨rfl, rfl⟩))
      go_ret
      exact ⟨rfl, rfl⟩
  · have r1 := q1 rfl
    have r2 := q2 rfl
    have r3 := q3 rfl
    have HN := Lib.hid (hN rfl)
    clear q1 q2 q3 hN
    cases b2
    · subst hV
      rcases hX with ⟨rfl, rfl⟩ | ⟨rfl, rfl⟩
      all_goals
        go_enter Tryz.func22, Tryz.ntmps22
        go_wp2_with (first | (go_at_call 38; (with_reducible refine (HW.out _).mono ?_); rintro _ _ ⟨rfl, rfl⟩) | (go_at_call 37; (with_reducible refine (HA.out _).mono ?_); rintro _ _ ⟨rfl, rfl⟩))
        go_ret
        exact ⟨rfl, rfl⟩
    · cases b3
      · subst hV
        rcases hX with ⟨rfl, rfl⟩ | ⟨rfl, rfl⟩
        all_goals
          go_enter Tryz.func22, Tryz.ntmps22
          go_wp2_with (first | (go_at_call 38; (with_reducible refine (HW.out _).mono ?_); rintro _ _ ⟨rfl, rfl⟩) | (go_at_call 37; (with_reducible refine (HA.out _).mono ?_); rintro _ _ ⟨rfl, rfl⟩))
          go_ret
          exact ⟨rfl, rfl⟩
      · subst hV
        rcases hX with ⟨rfl, rfl⟩ | ⟨rfl, rfl⟩
        all_goals
          go_enter Tryz.func22, Tryz.ntmps22
          go_wp2_with (first | (go_at_call 38; (with_reducible refine (HW.out _).mono ?_); rintro _ _ ⟨rfl, rfl⟩) | (go_at_call 37; (with_reducible refine (HA.out _).mono ?_); rintro _ _ ⟨rfl, rfl⟩) | (go_at_call 39; (with_reducible refine (HN.out _).mono ?_); rintro _ _ ⟨rfl, rfl⟩))
          go_ret
          exact ⟨rfl, rfl⟩
/-- The number that letters behind a name are, in a mode; -1: they are none. -/
def writtenD (l : List UInt8) (k : Int) : Int :=
  if k == 0 then (if l == [] then 0 else -1) else if k == 1 then (if l == [32, 65] then 0 else -1) else
  if ((l.length : Int) == ((aheadD k).length + 1 : Nat) + manyI k + ((behindD k).length : Int)) && (l.take ((aheadD k).length + 1) == 32 :: aheadD k && l.drop ((aheadD k).length + 1 + manyD k) == behindD k) then
    numL ((l.drop ((aheadD k).length + 1)).take (manyD k)) 0 else -1
set_option maxRecDepth 100000 in
theorem writ_imp (l : List UInt8) (w : World) : Calls Tryz.prog 22 #[.string (txB l), .int .i64 0] w fun e w' => e = .returned (.int .i64 (writtenD l 0)) ∧ w = w' := by
  have h : ((txB l).toList == []) = (l == []) := by rw [txB_toList]
  have hv : writtenD l 0 = if l == [] then 0 else -1 := rfl
  rw [hv]
  generalize txB l = S at *
  cases e : (l == [])
  · rw [e] at h
    go_enter Tryz.func22, Tryz.ntmps22
    go_wp2
    go_ret
    exact ⟨rfl, rfl⟩
  · rw [e] at h
    go_enter Tryz.func22, Tryz.ntmps22
    go_wp2
    go_ret
    exact ⟨rfl, rfl⟩
set_option maxRecDepth 100000 in
theorem writ_acc (l : List UInt8) (w : World) : Calls Tryz.prog 22 #[.string (txB l), .int .i64 1] w fun e w' => e = .returned (.int .i64 (writtenD l 1)) ∧ w = w' := by
  have h : ((txB l).toList == [32, 65]) = (l == [32, 65]) := by rw [txB_toList]
  have hv : writtenD l 1 = if l == [32, 65] then 0 else -1 := rfl
  rw [hv]
  generalize txB l = S at *
  cases e : (l == [32, 65])
  · rw [e] at h
    go_enter Tryz.func22, Tryz.ntmps22
    go_wp2
    go_ret
    exact ⟨rfl, rfl⟩
  · rw [e] at h
    go_enter Tryz.func22, Tryz.ntmps22
    go_wp2
    go_ret
    exact ⟨rfl, rfl⟩
theorem txB_extract (l : List UInt8) (i j : Nat) : (txB l).extract i j = txB ((l.take j).drop i) := by
  apply ByteArray.ext
  rw [ByteArray.data_extract]
  show l.toArray.extract i j = ((l.take j).drop i).toArray
  rw [List.extract_toArray, List.extract_eq_take_drop]
  rw [List.drop_take]
theorem many_four (k : Int) : manyD k ≤ 4 := by unfold manyD; split <;> omega
theorem ahead_len (k : Int) : (aheadD k).length ≤ 2 := by unfold aheadD; split; simp; split <;> simp
theorem behind_len (k : Int) : (behindD k).length ≤ 3 := by unfold behindD; split; simp; split; simp; split; simp; split; simp; split <;> simp
theorem writ_c (l : List UInt8) (k : Int) (h0 : 0 ≤ k) (h12 : k ≤ 12) (w : World) : Calls Tryz.prog 22 #[.string (txB l), .int .i64 k] w fun e w' => e = .returned (.int .i64 (writtenD l k)) ∧ w = w' := by
  by_cases k0 : k = 0
  · subst k0; exact writ_imp l w
  by_cases k1 : k = 1
  · subst k1; exact writ_acc l w
  have hb0 : (k == 0) = false := by rw [beq_eq_false_iff_ne]; exact k0
  have hb1 : (k == 1) = false := by rw [beq_eq_false_iff_ne]; exact k1
  have hz := txB_size l
  have hmi := manyI_eq k
  have la := ahead_len k
  have lb := behind_len k
  have m4 := many_four k
  have hlen : (((l.length : Int) == ((aheadD k).length + 1 : Nat) + manyI k + ((behindD k).length : Int)) = true) → (aheadD k).length + 1 + manyD k ≤ l.length := fun h => by
    rw [beq_iff_eq, ← hmi] at h
    omega
  refine writ_mode (txB l) (txB (aheadD k)) (txB (32 :: aheadD k)) (txB (behindD k)) (txB (l.take ((aheadD k).length + 1))) (txB (l.drop ((aheadD k).length + 1 + manyD k))) (txB ((l.drop ((aheadD k).length + 1)).take (manyD k))) k
    (numL ((l.drop ((aheadD k).length + 1)).take (manyD k)) 0) (manyI k) (writtenD l k) (wideD k) _ _ _ ((aheadD k).length + 1) (behindD k).length (aheadD k).length hb0 hb1 ?_ (fun w => around_c k h0 h12 w) (fun w => wide_c k w)
    ?_ (txB_size _) (by rw [txB_size]; rfl) (txB_size _) (by omega) (by omega) (by omega) rfl ?_ ?_ ?_ rfl rfl ?_ ?_ w
  · unfold manyI
    cases wideD k
    · exact .inr ⟨rfl, rfl⟩
    · exact .inl ⟨rfl, rfl⟩
  · show txB [32] ++ txB (aheadD k) = _
    rw [txB_append]; rfl
  · intro h W
    rw [hz] at h
    have := hlen h
    rw [run_slice_string_h (ht := Tryz.underlying9) (h0 := by omega) (h2 := by rw [hz]; omega), txB_extract]
    simp
  · intro h W
    rw [hz] at h
    have := hlen h
    rw [← hmi, run_slice_string_l (ht := Tryz.underlying9) (h0 := by omega) (h1 := by rw [hz]; omega), txB_extract, hz]
    rw [show ((((aheadD k).length + 1 : Nat) : Int) + ((manyD k : Nat) : Int)).toNat = (aheadD k).length + 1 + manyD k by omega, List.take_length]
  · intro h W
    rw [hz] at h
    have := hlen h
    rw [← hmi, run_slice_string _ _ _ _ _ _ _ Tryz.underlying9 (by omega) (by omega) (by rw [hz]; omega), txB_extract]
    rw [show ((((aheadD k).length + 1 : Nat) : Int) + ((manyD k : Nat) : Int)).toNat = (aheadD k).length + 1 + manyD k by omega, show (((aheadD k).length + 1 : Nat) : Int).toNat = (aheadD k).length + 1 by omega, List.drop_take]
    congr 2
    congr 1
    congr 1
    omega
  · intro _ w
    exact number_c _ (by rw [List.length_take]; omega) w
  · rw [hz, txB_toList, txB_toList, txB_toList, txB_toList]
    unfold writtenD
    rw [hb0, hb1]
    rfl
end Go.Proofs.YtpjpoopgafcedaaGreatDoor
