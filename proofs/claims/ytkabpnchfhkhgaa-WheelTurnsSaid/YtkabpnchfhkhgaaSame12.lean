/-
  The law's same: whether a wheel is the document's answer's.
-/
import Derived.Test.YtkabpnchfhkhgaaRoll12
set_option linter.unusedSimpArgs false
set_option linter.unusedVariables false
namespace Go.Proofs.Ytkabpnchfhkhgaa
open Go.RowKit Go.PlainAid

set_option maxRecDepth 100000 in
set_option maxHeartbeats 4000000 in
theorem same12_c (wb rb : Nat) (R : Wh) (hR : R.May) (w : World) (h : Pw wb R w) (hr : Rh rb R w) :
    Calls Try.prog 14 #[.pointer (some ⟨wb, 0, none⟩), .pointer (some ⟨rb, 0, none⟩)] w fun e w' => e = .returned (.bool true) ∧ Below w.heap.size w w' := by
  have HWy := Lib.hid (fun W => ways_c R.q hR.q W)
  have HR := Lib.hid (fun reg W (hW : Below w.heap.size w W) => wread_c wb R hR reg W (h.below hW))
  have HA := Lib.hid (fun W (hW : Below w.heap.size w W) => wat_c wb R W (h.below hW))
  have HB := Lib.hid (fun W (hW : Below w.heap.size w W) => wway_c wb R W (h.below hW))
  have HP1 := Lib.hid (fun W => plain_c R.x R.y (by have := hR.x; rw [p53]; omega) (by have := hR.y; rw [p53]; omega) W)
  have HP2 := Lib.hid (fun W => plain_c (waysX R.q) (waysY R.q) (small_ways R.q).1 (small_ways R.q).2 W)
  have HR0 := Lib.hid (fun W hW => HR.out 0 W hW)
  have HR1 := Lib.hid (fun W hW => HR.out 1 W hW)
  have HR2 := Lib.hid (fun W hW => HR.out 2 W hW)
  rw [show rdV R 0 = .tuple #[.agg #[.int .u8 R.b, .int .u8 0], .int .i64 0] from rfl] at HR0
  rw [show rdV R 1 = .tuple #[.agg #[.int .u8 (R.x % 256), .int .u8 0], .int .i64 0] from rfl] at HR1
  rw [show rdV R 2 = .tuple #[.agg #[.int .u8 (R.y % 256), .int .u8 0], .int .i64 0] from rfl] at HR2
  have hmx := hR.x
  have hmy := hR.y
  have tx : (R.x + 256).tmod 256 = R.x % 256 := by rw [Int.tmod_eq_emod_of_nonneg (by omega)]; omega
  have ty : (R.y + 256).tmod 256 = R.y % 256 := by rw [Int.tmod_eq_emod_of_nonneg (by omega)]; omega
  have wx : IntKind.i64.wrap (R.x + 256) = R.x + 256 := IntWalk.i64_in _ (by omega)
  have wy : IntKind.i64.wrap (R.y + 256) = R.y + 256 := IntWalk.i64_in _ (by omega)
  obtain ⟨mx, hmx2⟩ : ∃ m, R.x % 256 = m := ⟨_, rfl⟩
  obtain ⟨my, hmy2⟩ : ∃ m, R.y % 256 = m := ⟨_, rfl⟩
  have vx : IntKind.u8.wrap mx = mx := IntWalk.u8_in _ (by omega)
  have vy : IntKind.u8.wrap my = my := IntWalk.u8_in _ (by omega)
  have ux : IntKind.i64.wrap mx = mx := IntWalk.i64_in _ (by omega)
  have uy : IntKind.i64.wrap my = my := IntWalk.i64_in _ (by omega)
  have sx : mx % 256 = mx := by omega
  have sy : my % 256 = my := by omega
  rw [hmx2] at HR1 tx
  rw [hmy2] at HR2 ty
  obtain ⟨c0, c1, c2, c3, -⟩ := hr
  have hlr := klt c0
  clear h hR hmx hmy HR hmx2 hmy2
  generalize cV R.x R.y = V1 at *
  generalize cV (waysX R.q) (waysY R.q) = V2 at *
  generalize waysX R.q = X at *
  generalize waysY R.q = Y at *
  have hr_0 := c0
  have hr_1 := c1
  have hr_2 := c2
  have hr_3 := c3
  have hB : Below w.heap.size w w := Below.refl _ _
  clear c0 c1 c2 c3
  go_enter Try.func14, Try.ntmps14
  go_wp2_with fail
  ((with_reducible refine (HWy.out _).mono ?_); rintro _ u1 ⟨rfl, hb⟩)
  have T : CC u1 rb 0 1 (.int .i64 R.x) (.int .i64 R.y) ∧ CC u1 rb 2 3 (.int .i64 R.q) (.int .u8 R.b) := by
      refine ⟨⟨?_, ?_⟩, ⟨?_, ?_⟩⟩ <;> refine kc hb ?_ <;> (go_simp; first | done | rfl)
  have hz := hb.size
  (try simp only [World.size_alloc, World.size_setCell, World.size_drew] at hz)
  have L : rb < u1.heap.size := by omega
  have hB' : Below w.heap.size w u1 := by
      refine kb ?_ hb
      go_grown
  clear hb hz
  obtain ⟨⟨hr_0, hr_1⟩, ⟨hr_2, hr_3⟩⟩ := T
  have hlr := L; clear L
  obtain ⟨hnr0, hnr1, hkr1, hnr2, hkr2⟩ := ap0 hlr
  have hB := hB'; clear hB'
  have hsz := hB.size
  go_wp2_with fail
  ((with_reducible refine (HR0.out _ hB).mono ?_); rintro _ u2 ⟨rfl, hb⟩)
  have T : CC u2 rb 0 1 (.int .i64 R.x) (.int .i64 R.y) ∧ CC u2 rb 2 3 (.int .i64 R.q) (.int .u8 R.b) := by
      refine ⟨⟨?_, ?_⟩, ⟨?_, ?_⟩⟩ <;> refine kc hb ?_ <;> (go_simp; first | done | rfl)
  have hz := hb.size
  (try simp only [World.size_alloc, World.size_setCell, World.size_drew] at hz)
  have L : rb < u2.heap.size := by omega
  have hB' : Below w.heap.size w u2 := by
      refine kb ?_ hb
      go_grown
  clear hr_0 hr_1 hr_2 hr_3 hlr hnr0 hnr1 hkr1 hnr2 hkr2 hB hsz
  clear hb hz
  obtain ⟨⟨hr_0, hr_1⟩, ⟨hr_2, hr_3⟩⟩ := T
  have hlr := L; clear L
  obtain ⟨hnr0, hnr1, hkr1, hnr2, hkr2⟩ := ap0 hlr
  have hB := hB'; clear hB'
  have hsz := hB.size
  go_wp2_with fail
  ((with_reducible refine (HR1.out _ (by go_grown)).mono ?_); rintro _ u3 ⟨rfl, hb⟩)
  have T : CC u3 rb 0 1 (.int .i64 R.x) (.int .i64 R.y) ∧ CC u3 rb 2 3 (.int .i64 R.q) (.int .u8 R.b) ∧ CC u3 u2.heap.size 0 1 (.int .u8 R.b) (.int .u8 0) := by
      refine ⟨⟨?_, ?_⟩, ⟨?_, ?_⟩, ⟨?_, ?_⟩⟩ <;> refine kc hb ?_ <;> (go_simp; first | done | rfl)
  have hz := hb.size
  (try simp only [World.size_alloc, World.size_setCell, World.size_drew] at hz)
  have L : rb < u3.heap.size ∧ u2.heap.size < u3.heap.size := by omega
  have hB' : Below w.heap.size w u3 := by
      refine kb ?_ hb
      go_grown
  clear hr_0 hr_1 hr_2 hr_3 hlr hnr0 hnr1 hkr1 hnr2 hkr2 hB hsz
  clear hb hz
  obtain ⟨⟨hr_0, hr_1⟩, ⟨hr_2, hr_3⟩, ⟨ha_0, ha_1⟩⟩ := T
  obtain ⟨hlr, hla⟩ := L
  obtain ⟨hnr0, hnr1, hkr1, hnr2, hkr2⟩ := ap0 hlr
  obtain ⟨hna0, hna1, hka1, hna2, hka2⟩ := ap0 hla
  have hB := hB'; clear hB'
  have hsz := hB.size
  go_wp2_with fail
  ((with_reducible refine (HR2.out _ (by go_grown)).mono ?_); rintro _ u4 ⟨rfl, hb⟩)
  have T : CC u4 rb 0 1 (.int .i64 R.x) (.int .i64 R.y) ∧ CC u4 rb 2 3 (.int .i64 R.q) (.int .u8 R.b) ∧ CC u4 u2.heap.size 0 1 (.int .u8 R.b) (.int .u8 0) ∧ CC u4 u3.heap.size 0 1 (.int .u8 mx) (.int .u8 0) := by
      refine ⟨⟨?_, ?_⟩, ⟨?_, ?_⟩, ⟨?_, ?_⟩, ⟨?_, ?_⟩⟩ <;> refine kc hb ?_ <;> (go_simp; first | done | rfl)
  have hz := hb.size
  (try simp only [World.size_alloc, World.size_setCell, World.size_drew] at hz)
  have L : rb < u4.heap.size ∧ u2.heap.size < u4.heap.size ∧ u3.heap.size < u4.heap.size := by omega
  have hB' : Below w.heap.size w u4 := by
      refine kb ?_ hb
      go_grown
  clear hr_0 hr_1 hr_2 hr_3 ha_0 ha_1 hlr hla hnr0 hnr1 hkr1 hnr2 hkr2 hna0 hna1 hka1 hna2 hka2 hB hsz
  clear hb hz
  obtain ⟨⟨hr_0, hr_1⟩, ⟨hr_2, hr_3⟩, ⟨ha_0, ha_1⟩, ⟨hb_0, hb_1⟩⟩ := T
  obtain ⟨hlr, hla, hlb⟩ := L
  obtain ⟨hnr0, hnr1, hkr1, hnr2, hkr2⟩ := ap0 hlr
  obtain ⟨hna0, hna1, hka1, hna2, hka2⟩ := ap0 hla
  obtain ⟨hnb0, hnb1, hkb1, hnb2, hkb2⟩ := ap0 hlb
  have hB := hB'; clear hB'
  have hsz := hB.size
  go_wp2_with fail
  refine wp_region_plan (fun w' => w'.cell? ⟨rb, 0, none⟩ = some (.int .i64 R.x) ∧ w'.cell? ⟨rb, 1, none⟩ = some (.int .i64 R.y) ∧ w'.cell? ⟨rb, 2, none⟩ = some (.int .i64 R.q) ∧ w'.cell? ⟨rb, 3, none⟩ = some (.int .u8 R.b) ∧ w'.cell? ⟨u2.heap.size, 0, none⟩ = some (.int .u8 R.b) ∧ w'.cell? ⟨u2.heap.size, 1, none⟩ = some (.int .u8 0) ∧ w'.cell? ⟨u3.heap.size, 0, none⟩ = some (.int .u8 mx) ∧ w'.cell? ⟨u3.heap.size, 1, none⟩ = some (.int .u8 0) ∧ w'.cell? ⟨u4.heap.size, 0, none⟩ = some (.int .u8 my) ∧ w'.cell? ⟨u4.heap.size, 1, none⟩ = some (.int .u8 0) ∧ Below w.heap.size w w') (by kernel_rfl) (by kernel_rfl) (by kernel_rfl) ?_ ?_
  · (try dsimp only)
    refine ⟨?_, ?_, ?_, ?_, ?_, ?_, ?_, ?_, ?_, ?_, ?_⟩ <;> first | (go_simp; done) | (simp [*]; done) | go_grown
  repeat (first
    | (refine Plan.val (v := ?_) ?_ ?_ ?_; rotate_left; (· rfl); (· (intro W hSw; (try dsimp only at hSw); go_simp; all_goals (first | (with_reducible rfl) | (constructor <;> (with_reducible rfl)) | (rw [if_neg (by omega)]; done) | (rw [if_neg (by omega)]; with_reducible rfl)))); (try simp only [Act.put, List.setIfInBounds_toArray, List.set_cons_zero, List.set_cons_succ]))
    | (refine Plan.no ?_ ?_; (· rfl); (try simp only [Act.put, List.setIfInBounds_toArray, List.set_cons_zero, List.set_cons_succ])))
  refine Plan.done ?_
  intro u5 T
  (try dsimp only at T)
  clear hr_0 hr_1 hr_2 hr_3 ha_0 ha_1 hb_0 hb_1 hlr hla hlb hnr0 hnr1 hkr1 hnr2 hkr2 hna0 hna1 hka1 hna2 hka2 hnb0 hnb1 hkb1 hnb2 hkb2 hB hsz
  obtain ⟨hr_0, hr_1, hr_2, hr_3, ha_0, ha_1, hb_0, hb_1, hc_0, hc_1, hB⟩ := T
  have hsz := hB.size
  have hlr := klt hr_0
  have hla := klt ha_0
  have hlb := klt hb_0
  have hlc := klt hc_0
  obtain ⟨hnr0, hnr1, hkr1, hnr2, hkr2⟩ := ap0 hlr
  obtain ⟨hna0, hna1, hka1, hna2, hka2⟩ := ap0 hla
  obtain ⟨hnb0, hnb1, hkb1, hnb2, hkb2⟩ := ap0 hlb
  obtain ⟨hnc0, hnc1, hkc1, hnc2, hkc2⟩ := ap0 hlc
  go_wp2_with fail
  refine wp_region_plan (fun w' => w'.cell? ⟨rb, 0, none⟩ = some (.int .i64 R.x) ∧ w'.cell? ⟨rb, 1, none⟩ = some (.int .i64 R.y) ∧ w'.cell? ⟨rb, 2, none⟩ = some (.int .i64 R.q) ∧ w'.cell? ⟨rb, 3, none⟩ = some (.int .u8 R.b) ∧ Below w.heap.size w w') (by kernel_rfl) (by kernel_rfl) (by kernel_rfl) ?_ ?_
  · (try dsimp only)
    refine ⟨?_, ?_, ?_, ?_, ?_⟩ <;> first | (go_simp; done) | (simp [*]; done) | go_grown
  repeat (first
    | (refine Plan.val (v := ?_) ?_ ?_ ?_; rotate_left; (· rfl); (· (intro W hSw; (try dsimp only at hSw); go_simp; all_goals (first | (with_reducible rfl) | (constructor <;> (with_reducible rfl)) | (rw [if_neg (by omega)]; done) | (rw [if_neg (by omega)]; with_reducible rfl)))); (try simp only [Act.put, List.setIfInBounds_toArray, List.set_cons_zero, List.set_cons_succ]))
    | (refine Plan.no ?_ ?_; (· rfl); (try simp only [Act.put, List.setIfInBounds_toArray, List.set_cons_zero, List.set_cons_succ]))
    | (refine Plan.call (v := ?_) (f := ?_) (args := ?_) ?_ ?_ ?_ ?_; rotate_left 3; (· rfl); (· (intro W hSw; (try dsimp only at hSw); go_simp; all_goals (first | (with_reducible rfl) | (constructor <;> (with_reducible rfl)) | (rw [if_neg (by omega)]; done) | (rw [if_neg (by omega)]; with_reducible rfl)))); (· (intro W hSw; (try dsimp only at hSw); first | (go_at_call 18; ((with_reducible refine (HA.out _ hSw.2.2.2.2).mono ?_); rintro _ wz ⟨rfl, hb⟩; (refine ⟨?_, ?_⟩; (· with_reducible rfl); exact ⟨kc hb hSw.1, kc hb hSw.2.1, kc hb hSw.2.2.1, kc hb hSw.2.2.2.1, kb hSw.2.2.2.2 hb⟩))) | (go_at_call 19; ((with_reducible refine (HB.out _ hSw.2.2.2.2).mono ?_); rintro _ wz ⟨rfl, hb⟩; (refine ⟨?_, ?_⟩; (· with_reducible rfl); exact ⟨kc hb hSw.1, kc hb hSw.2.1, kc hb hSw.2.2.1, kc hb hSw.2.2.2.1, kb hSw.2.2.2.2 hb⟩))) | (go_at_call 15; ((with_reducible refine (HP1.out _).mono ?_); rintro _ wz ⟨rfl, hb⟩; (refine ⟨?_, ?_⟩; (· with_reducible rfl); exact ⟨kc hb hSw.1, kc hb hSw.2.1, kc hb hSw.2.2.1, kc hb hSw.2.2.2.1, kb hSw.2.2.2.2 hb⟩))) | (go_at_call 15; ((with_reducible refine (HP2.out _).mono ?_); rintro _ wz ⟨rfl, hb⟩; (refine ⟨?_, ?_⟩; (· with_reducible rfl); exact ⟨kc hb hSw.1, kc hb hSw.2.1, kc hb hSw.2.2.1, kc hb hSw.2.2.2.1, kb hSw.2.2.2.2 hb⟩))))); (try simp only [Act.put, List.setIfInBounds_toArray, List.set_cons_zero, List.set_cons_succ])))
  refine Plan.done ?_
  intro wz T
  (try dsimp only at T)
  have hBe := T.2.2.2.2
  go_wp2
  go_ret
  exact ⟨rfl, by go_grown⟩
end Go.Proofs.Ytkabpnchfhkhgaa
