/-
  Layer 13's laws: BusNil (genn13.py writes it).
-/
import Derived.Test.YtcnejgilmciljaaDoorBits10
set_option linter.unusedSimpArgs false
set_option linter.unusedVariables false
namespace Go.Proofs.YtcnejgilmciljaaDoor
open Go.RowKit Go.PlainAid

theorem badT : ¬ (⟨-1, 0, false, false, false, false⟩ : Tm).May := fun h => by have := h.1.1; simp at this
set_option maxRecDepth 100000 in
set_option maxHeartbeats 8000000 in
theorem nil_walk13 {BO : Nat → Bs → Thing} (K : BusL BO) (a v t : Int) (w : World) (hL : Laid w) :
    Calls Tryd.prog 3 #[.int .i64 a, .agg #[.int .u8 v, .int .u8 t]] w fun e w' => e = .returned (.bool true) ∧ Below w.heap.size w w' := by
  have HK := Lib.hid K
  have HL := Lib.hid hL
  have hlt0 := hL.lt
  have HZ := Lib.hid (fun p q r W h => K.k.newNil p q r ⟨0, 0, false, false, false, false⟩ W h)
  have HBad := Lib.hid (fun p q r W => K.k.newBad p q r ⟨-1, 0, false, false, false, false⟩ W badT)
  unfold tmVal at HZ HBad
  dsimp only at HZ HBad
  have HTN := Lib.hid K.timerN
  unfold tmVal at HTN
  dsimp only at HTN
  have HRN := Lib.hid (fun W => K.readN a W)
  unfold rdBV at HRN
  have HWN := Lib.hid (fun W => K.writeN a v t W)
  unfold wrBV at HWN
  dsimp only at HRN HWN
  clear hL
  go_enter Tryd.func3, Tryd.ntmps3
  go_wp2_with fail
  have hb0 : Below w.heap.size w (w.alloc (Obj.cells #[.int .u8 v, .int .u8 t] 23)) := by go_grown
  have x0 : (w.alloc (Obj.cells #[.int .u8 v, .int .u8 t] 23)).cell? ⟨w.heap.size, 0, none⟩ = some (.int .u8 v) := by go_simp; first | done | rfl
  have x1 : (w.alloc (Obj.cells #[.int .u8 v, .int .u8 t] 23)).cell? ⟨w.heap.size, 1, none⟩ = some (.int .u8 t) := by go_simp; first | done | rfl
  have hz0 : w.heap.size < (w.alloc (Obj.cells #[.int .u8 v, .int .u8 t] 23)).heap.size := by simp
  have HB := Lib.hid hb0
  clear hb0
  refine (pnew_c [] [] (by decide) (by decide) _ _ _ (HoldsW.nil _) (HoldsW.nil _)).mono ?_
  rintro _ u1 ⟨pb, F, G, rfl, -, -, -, hb⟩
  have HB' := Lib.hid (Below.trans HB.out (hb.mono HB.out.size))
  have x0 := kc hb x0
  have x1 := kc hb x1
  have hz0 := klt x0
  unfold okV
  clear hb HB
  have HB := HB'
  clear HB'
  go_wp2_with fail
  refine (wnew_c _).mono ?_
  rintro _ u2 ⟨wb1, rfl, -, -, hb⟩
  have HB' := Lib.hid (Below.trans HB.out (hb.mono HB.out.size))
  have x0 := kc hb x0
  have x1 := kc hb x1
  have hz0 := klt x0
  clear hb HB
  have HB := HB'
  clear HB'
  go_wp2_with fail
  refine (HZ.out none _ _ _ (.inl rfl)).mono ?_
  rintro _ u3 ⟨rfl, hb⟩
  have HB' := Lib.hid (Below.trans HB.out (hb.mono HB.out.size))
  have x0 := kc hb x0
  have x1 := kc hb x1
  have hz0 := klt x0
  clear hb HB
  have HB := HB'
  clear HB'
  go_wp2_with fail
  have hsz := HB.out.size
  refine (newp_c _ (by first | omega | (simp; omega))).mono ?_
  rintro _ um3 ⟨rfl, hb, -⟩
  have HB' := Lib.hid (Below.trans HB.out (hb.mono HB.out.size))
  have x0 := kc hb x0
  have x1 := kc hb x1
  have hz0 := klt x0
  clear hb HB hsz
  have HB := HB'
  clear HB'
  go_wp2_with fail
  refine (wnew_c _).mono ?_
  rintro _ u4 ⟨wb2, rfl, -, -, hb⟩
  have HB' := Lib.hid (Below.trans HB.out (hb.mono HB.out.size))
  have x0 := kc hb x0
  have x1 := kc hb x1
  have hz0 := klt x0
  clear hb HB
  have HB := HB'
  clear HB'
  go_wp2_with fail
  refine (HZ.out _ none _ _ (.inr (.inl rfl))).mono ?_
  rintro _ u5 ⟨rfl, hb⟩
  have HB' := Lib.hid (Below.trans HB.out (hb.mono HB.out.size))
  have x0 := kc hb x0
  have x1 := kc hb x1
  have hz0 := klt x0
  clear hb HB
  have HB := HB'
  clear HB'
  go_wp2_with fail
  have hsz := HB.out.size
  refine (newp_c _ (by first | omega | (simp; omega))).mono ?_
  rintro _ um5 ⟨rfl, hb, -⟩
  have HB' := Lib.hid (Below.trans HB.out (hb.mono HB.out.size))
  have x0 := kc hb x0
  have x1 := kc hb x1
  have hz0 := klt x0
  clear hb HB hsz
  have HB := HB'
  clear HB'
  go_wp2_with fail
  refine (HZ.out _ _ none _ (.inr (.inr rfl))).mono ?_
  rintro _ u6 ⟨rfl, hb⟩
  have HB' := Lib.hid (Below.trans HB.out (hb.mono HB.out.size))
  have x0 := kc hb x0
  have x1 := kc hb x1
  have hz0 := klt x0
  clear hb HB
  have HB := HB'
  clear HB'
  go_wp2_with fail
  have hsz := HB.out.size
  refine (newp_c _ (by first | omega | (simp; omega))).mono ?_
  rintro _ um6 ⟨rfl, hb, -⟩
  have HB' := Lib.hid (Below.trans HB.out (hb.mono HB.out.size))
  have x0 := kc hb x0
  have x1 := kc hb x1
  have hz0 := klt x0
  clear hb HB hsz
  have HB := HB'
  clear HB'
  go_wp2_with fail
  refine (wnew_c _).mono ?_
  rintro _ u7 ⟨wb3, rfl, -, -, hb⟩
  have HB' := Lib.hid (Below.trans HB.out (hb.mono HB.out.size))
  have x0 := kc hb x0
  have x1 := kc hb x1
  have hz0 := klt x0
  clear hb HB
  have HB := HB'
  clear HB'
  go_wp2_with fail
  refine (HBad.out _ _ _ _).mono ?_
  rintro _ u8 ⟨rfl, hb⟩
  have HB' := Lib.hid (Below.trans HB.out (hb.mono HB.out.size))
  have x0 := kc hb x0
  have x1 := kc hb x1
  have hz0 := klt x0
  clear hb HB
  have HB := HB'
  clear HB'
  go_wp2_with fail
  refine (HRN.out _).mono ?_
  rintro _ u9 ⟨rfl, hb⟩
  have HB' := Lib.hid (Below.trans HB.out (hb.mono HB.out.size))
  have x0 := kc hb x0
  have x1 := kc hb x1
  have hz0 := klt x0
  clear hb HB
  have HB := HB'
  clear HB'
  go_wp2_with fail
  obtain ⟨v1, hv1⟩ : ∃ W, W = u9.alloc (Obj.cells #[.int .u8 0, .int .u8 0] 23) := ⟨_, rfl⟩
  have y0 : v1.cell? ⟨u9.heap.size, 0, none⟩ = some (.int .u8 0) := by rw [hv1]; go_simp; first | done | rfl
  have y1 : v1.cell? ⟨u9.heap.size, 1, none⟩ = some (.int .u8 0) := by rw [hv1]; go_simp; first | done | rfl
  have hbv : Below u9.heap.size u9 v1 := by rw [hv1]; go_grown
  have HB' := Lib.hid (Below.trans HB.out (hbv.mono HB.out.size))
  rw [← hv1]
  clear hv1 hbv HB x0 x1 hz0
  have HB := HB'
  have hz0 := klt y0
  clear HB'
  refine (HWN.out _).mono ?_
  rintro _ u10 ⟨rfl, hb⟩
  have HB' := Lib.hid (Below.trans HB.out (hb.mono HB.out.size))
  have y0 := kc hb y0
  have y1 := kc hb y1
  have hz0 := klt y0
  clear hb HB
  have HB := HB'
  clear HB'
  go_wp2_with fail
  refine (HK.out.irqN _).mono ?_
  rintro _ u11 ⟨rfl, hb⟩
  have HB' := Lib.hid (Below.trans HB.out (hb.mono HB.out.size))
  clear hb HB
  have HB := HB'
  clear HB'
  go_wp2_with fail
  refine (HK.out.cyclesN _).mono ?_
  rintro _ u12 ⟨rfl, hb⟩
  have HB' := Lib.hid (Below.trans HB.out (hb.mono HB.out.size))
  clear hb HB
  have HB := HB'
  clear HB'
  go_wp2_with fail
  refine (HK.out.memoryN _).mono ?_
  rintro _ u13 ⟨rfl, hb⟩
  have HB' := Lib.hid (Below.trans HB.out (hb.mono HB.out.size))
  clear hb HB
  have HB := HB'
  clear HB'
  go_wp2_with fail
  refine (HTN.out _).mono ?_
  rintro _ u14 ⟨rfl, hb⟩
  have HB' := Lib.hid (Below.trans HB.out (hb.mono HB.out.size))
  clear hb HB
  have HB := HB'
  clear HB'
  go_wp2_with fail
  refine (HK.out.portsN _).mono ?_
  rintro _ u15 ⟨rfl, hb⟩
  have HB' := Lib.hid (Below.trans HB.out (hb.mono HB.out.size))
  clear hb HB
  have HB := HB'
  clear HB'
  go_wp2_with fail
  refine (HK.out.wheelN _).mono ?_
  rintro _ u16 ⟨rfl, hb⟩
  have HB' := Lib.hid (Below.trans HB.out (hb.mono HB.out.size))
  clear hb HB
  have HB := HB'
  clear HB'
  go_wp2_with fail
  refine (HK.out.cloneN _).mono ?_
  rintro _ u17 ⟨rfl, hb⟩
  have HB' := Lib.hid (Below.trans HB.out (hb.mono HB.out.size))
  clear hb HB
  have HB := HB'
  clear HB'
  go_wp2_with fail
  refine (HK.out.lowNN _).mono ?_
  rintro _ u18 ⟨rfl, hb⟩
  have HB' := Lib.hid (Below.trans HB.out (hb.mono HB.out.size))
  clear hb HB
  have HB := HB'
  clear HB'
  go_wp2_with fail
  have hsz := HB.out.size
  refine (made0_c HK.out.k _ (by omega)).mono ?_
  rintro _ u19 ⟨bb, F, G, rfl, -, -, -, hb⟩
  have HB' := Lib.hid (Below.trans HB.out (hb.mono HB.out.size))
  clear hsz
  clear hb HB
  have HB := HB'
  clear HB'
  go_wp2_with fail
  refine (HK.out.lowNP _ _).mono ?_
  rintro _ u20 ⟨rfl, hb⟩
  have HB' := Lib.hid (Below.trans HB.out (hb.mono HB.out.size))
  clear hb HB
  have HB := HB'
  clear HB'
  go_wp2_with fail
  refine (awake13_c HK.out.k _ (HL.out.keep (HB.out.block 0 hlt0))).mono ?_
  rintro _ u21 ⟨rfl, hb⟩
  have HB' := Lib.hid (Below.trans HB.out (hb.mono HB.out.size))
  clear hb HB
  have HB := HB'
  clear HB'
  go_wp2
  go_ret
  exact ⟨rfl, HB.out⟩
end Go.Proofs.YtcnejgilmciljaaDoor
