/-
  The law's example.
-/
import Derived.Test.YtkabpnchfhkhgaaSame12
set_option linter.unusedSimpArgs false
set_option linter.unusedVariables false
namespace Go.Proofs.Ytkabpnchfhkhgaa
open Go.RowKit Go.PlainAid

theorem cV03 : cV 0 3 = .complex .f64 0 4613937818241073152 := by
  have e1 : zF 0 = 0 := zF_zero
  have e2 : zF 3 = 4613937818241073152 := by decide +kernel
  unfold cV; rw [e1, e2]
theorem cV02 : cV 0 2 = .complex .f64 0 4611686018427387904 := by
  have e1 : zF 0 = 0 := zF_zero
  have e2 : zF 2 = 4611686018427387904 := by decide +kernel
  unfold cV; rw [e1, e2]
set_option maxRecDepth 100000 in
set_option maxHeartbeats 4000000 in
theorem awake12_c (w : World) : Calls Try.prog 8 #[] w fun e w' => e = .returned (.bool true) ∧ Below w.heap.size w w' := by
  have o0 : (FloatKind.f64.format.order 0 0 == some .eq) = true := by decide +kernel
  have o3 : (FloatKind.f64.format.order 4613937818241073152 4613937818241073152 == some .eq) = true := by decide +kernel
  have o2 : (FloatKind.f64.format.order 4611686018427387904 4611686018427387904 == some .eq) = true := by decide +kernel
  have HW1 : Hid (∀ wb W, Pw wb wh0 W → Calls Try.prog 11 #[.pointer (some ⟨wb, 0, none⟩), .int .i64 0, .agg #[.int .u8 13, .int .u8 0]] W fun e w' => e = .returned (.tuple #[.int .i64 0, .int .i64 0]) ∧ Pw wb ⟨0, 3, 1, 13⟩ w' ∧ Fr (fun k => k = wb) W w') := Lib.hid (fun wb W h => wwrite_c wb wh0 wh0_may 0 13 0 (by decide) W h)
  have HW2 : Hid (∀ wb W, Pw wb ⟨0, 3, 1, 13⟩ W → Calls Try.prog 11 #[.pointer (some ⟨wb, 0, none⟩), .int .i64 0, .agg #[.int .u8 6, .int .u8 0]] W fun e w' => e = .returned (.tuple #[.int .i64 0, .int .i64 0]) ∧ Pw wb ⟨0, 2, 3, 6⟩ w' ∧ Fr (fun k => k = wb) W w') := Lib.hid (fun wb W h => wwrite_c wb ⟨0, 3, 1, 13⟩ ⟨by decide, by decide, by decide, by decide⟩ 0 6 0 (by decide) W h)
  have HR : Hid (∀ wb W, Pw wb ⟨0, 3, 1, 13⟩ W → Calls Try.prog 12 #[.pointer (some ⟨wb, 0, none⟩), .int .i64 2] W fun e w' => e = .returned (.tuple #[.agg #[.int .u8 3, .int .u8 0], .int .i64 0]) ∧ Below W.heap.size W w') := Lib.hid (fun wb W h => wread_c wb ⟨0, 3, 1, 13⟩ ⟨by decide, by decide, by decide, by decide⟩ 2 W h)
  have HA1 := Lib.hid (fun wb W (h : Pw wb ⟨0, 3, 1, 13⟩ W) => wat_c wb _ W h)
  have HA2 := Lib.hid (fun wb W (h : Pw wb ⟨0, 2, 3, 6⟩ W) => wat_c wb _ W h)
  dsimp only at HA1 HA2
  rw [cV03] at HA1
  rw [cV02] at HA2
  go_enter Try.func8, Try.ntmps8
  go_wp2_with fail
  refine (wnew_c _).mono ?_
  rintro _ u ⟨wb, rfl, hP, hwb, hb⟩
  have HP := Lib.hid hP
  have HB := Lib.hid hb
  have hlt := hP.lt
  clear hP hb
  go_wp2_with fail
  refine (HW1.out _ _ HP.out).mono ?_
  rintro _ u2 ⟨rfl, hP, hf⟩
  have HP2 := Lib.hid hP
  have HB2 := Lib.hid (Fr.toBelow HB.out hf (fun k e => by subst e; exact hwb) (Nat.le_refl _))
  have hlt2 := hP.lt
  clear hP hf hlt
  go_wp2_with fail
  refine (HR.out _ _ HP2.out).mono ?_
  rintro _ u3 ⟨rfl, hb⟩
  have HP3 := Lib.hid (HP2.out.below hb)
  have HB3 := Lib.hid (HB2.out.trans (hb.mono HB2.out.size))
  have hlt3 := HP3.out.lt
  have hB3 := Below.refl u3.heap.size u3
  clear hb hlt2
  go_wp2_with fail
  refine (HA1.out _ _ (HP3.out.below (u := u3.alloc (.cells #[.int .u8 3, .int .u8 0] 34)) ((Below.refl _ _).alloc (Nat.le_refl _) _))).mono ?_
  rintro _ u4 ⟨rfl, hb⟩
  have hz4 := hb.size
  simp only [World.size_alloc] at hz4
  have s0 : u4.cell? ⟨u3.heap.size, 0, none⟩ = some (.int .u8 3) := kc hb (by go_simp; first | done | rfl)
  have s1 : u4.cell? ⟨u3.heap.size, 1, none⟩ = some (.int .u8 0) := kc hb (by go_simp; first | done | rfl)
  have HP4 := Lib.hid (HP3.out.below (kb ((Below.refl _ _).alloc (Nat.le_refl _) _) hb))
  have HB4 := Lib.hid (HB3.out.trans ((kb ((Below.refl _ _).alloc (Nat.le_refl _) _) hb).mono HB3.out.size))
  have hlt4 := klt s0
  clear hb hB3
  go_wp2_with fail
  refine (HW2.out _ _ HP4.out).mono ?_
  rintro _ u5 ⟨rfl, hP, hf⟩
  have HP5 := Lib.hid hP
  have HB5 := Lib.hid (Fr.toBelow HB4.out hf (fun k e => by subst e; exact hwb) (Nat.le_refl _))
  have t0 := hf.cell s0 (by omega)
  have t1 := hf.cell s1 (by omega)
  have hlt5 := klt t0
  have hB5 := Below.refl u5.heap.size u5
  clear hP hf s0 s1
  go_wp2_with fail
  refine (HA2.out _ _ HP5.out).mono ?_
  rintro _ u6 ⟨rfl, hb⟩
  have HB6 := Lib.hid (HB5.out.trans (hb.mono HB5.out.size))
  clear hb
  go_wp2
  go_ret
  exact ⟨rfl, HB6.out⟩
end Go.Proofs.Ytkabpnchfhkhgaa
