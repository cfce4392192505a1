/-
  The law's example; how its walk takes Plain and May.
-/
import Derived.Test.YtcpegglfgfgekaaAfterp10
import Derived.Test.YtcpegglfgfgekaaAfterd10
set_option linter.unusedSimpArgs false
set_option linter.unusedVariables false
namespace Go.Proofs.Ytcpegglfgfgekaa
open Go.RowKit Go.PlainAid

set_option maxRecDepth 100000 in
set_option maxHeartbeats 2000000 in
theorem awake10_c (w : World) : Calls Try.prog 11 #[] w fun e w' => e = .returned (.bool true) ∧ Below w.heap.size w w' := by
  have HW := Lib.hid (fun W h => writep_x 2 3 ⟨by decide, by decide⟩ w.heap.size 0 ⟨2, 0, false, false, false, false⟩ ⟨⟨by decide, by decide⟩, by decide, by decide⟩ W h)
  rw [show writeT ⟨2, 0, false, false, false, false⟩ 2 3 = ⟨2, 2, true, true, false, false⟩ from rfl, show regE 2 = 0 from rfl] at HW
  have HA := Lib.hid (fun W => afterp_c ⟨2, 2, true, true, false, false⟩ 3 ⟨⟨by decide, by decide⟩, by decide, by decide⟩ (by decide) (by decide) W)
  rw [show afterT ⟨2, 2, true, true, false, false⟩ 3 = ⟨2, 2, true, true, false, true⟩ from rfl] at HA
  dsimp only at HA
  go_enter Try.func11, Try.ntmps11
  go_wp2_with fail
  ((with_reducible refine (HW.out _ (Tw.mk0 (by go_simp) (by go_simp) (by go_simp) (by go_simp) (by go_simp) (by go_simp) (by go_simp) (by go_simp) (by go_simp) (by go_simp) (by go_simp) (by go_simp))).mono ?_); rintro _ u1 ⟨rfl, hb, hT⟩)
  have hs_u1 := Lib.hid hb
  have hz := hb.size
  (try simp only [World.size_alloc, World.size_setCell, World.size_drew] at hz)
  have hB' : Below w.heap.size w u1 := by
      refine below_grown2 ?_ hb (by omega)
      go_grown
  clear hb hz
  have hB := hB'; clear hB'
  have hsz := hB.size
  obtain ⟨t0, t1, t2, t3, t4, t5⟩ := hT.at0
  dsimp only at t0 t1 t2 t3 t4 t5
  clear hT
  go_wp2_with fail
  ((with_reducible refine (HA.out _).mono ?_); rintro _ u2 ⟨rfl, hb⟩)
  have hz := hb.size
  (try simp only [World.size_alloc, World.size_setCell, World.size_drew] at hz)
  have hB' : Below w.heap.size w u2 := by
      refine kb ?_ hb
      go_grown
  clear hB hsz
  clear hb hz
  have hB := hB'; clear hB'
  have hsz := hB.size
  go_wp2
  go_ret
  exact ⟨rfl, by go_grown⟩
end Go.Proofs.Ytcpegglfgfgekaa
