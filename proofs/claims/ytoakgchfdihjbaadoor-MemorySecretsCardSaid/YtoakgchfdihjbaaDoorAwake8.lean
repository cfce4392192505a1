/-
  Layer 8's laws: the chapter's examples.
-/
import Derived.Test.YtoakgchfdihjbaaDoorSamep8
set_option linter.unusedSimpArgs false
set_option linter.unusedVariables false
namespace Go.Proofs.YtoakgchfdihjbaaDoor
open Go.RowKit Go.PlainAid

/-- Behind a write into a block that is newer than w all of w is as it was. -/
theorem below_grown {w u v : World} {bb : Nat} (h : Below w.heap.size w u) (hg : u.grownBy v (some bb)) (hb : w.heap.size ≤ bb) : Below w.heap.size w v :=
  ⟨hg.os.trans h.os, hg.tape.trans h.tape, hg.output.trans h.output, Nat.le_trans h.size hg.size, fun b hl => (hg.block b (Nat.lt_of_lt_of_le hl h.size) (by simpa using fun e : b = bb => by omega)).trans (h.block b hl)⟩
def zeroM : Int → Int × Int := fun _ => (0, 0)
theorem aw_1 : writeM zeroM 32767 7 0 = (0, setM zeroM 32767 (7, 0)) := by
  unfold writeM
  rw [show kindI 32767 32767 = 1 from by decide]
  rfl
theorem aw_2 (M : Int → Int × Int) : writeM M 49152 7 0 = (0, M) := by
  unfold writeM
  rw [show kindI 49152 49152 = 4 from by decide]
  rfl
theorem aw_3 : prM (setM zeroM 32767 (7, 0)) 32767 = ⟨7, 0, 0⟩ := by
  unfold prM
  rw [show kindI 32767 32767 = 1 from by decide]
  rfl
theorem aw_4 : prM (setM zeroM 32767 (7, 0)) 49152 = ⟨0, 0, 0⟩ := by
  unfold prM
  rw [show kindI 49152 49152 = 4 from by decide]
  rfl
theorem aw_5 (M : Int → Int × Int) : prM M 40000 = ⟨255, 0, 0⟩ := by
  unfold prM
  rw [show kindI 40000 40000 = 3 from by decide]
  rfl
set_option maxRecDepth 100000 in
set_option maxHeartbeats 4000000 in
theorem awake_c (w : World) (hL : Laid w) : Calls Tryd.prog 10 #[] w fun e w' => e = .returned (.bool true) ∧ Below w.heap.size w w' := by
  have hlt := hL.lt
  have HL := Lib.hid (fun W (h : Below w.heap.size w W) => hL.below h)
  clear hL
  go_enter Tryd.func10, Tryd.ntmps10
  go_wp2_with fail
  refine (newp_c _ hlt).mono ?_
  rintro _ u1 ⟨rfl, hB1, hP1⟩
  have h1 := hB1.size
  have HP1 := Lib.hid hP1
  have HB1 := Lib.hid hB1
  have hl1 := klt hP1.c0
  clear hB1 hP1
  go_wp2_with fail
  refine (of_c 7 _).mono ?_
  rintro _ u2 ⟨rfl, hb2⟩
  have h2 := hb2.size
  have HP2 := Lib.hid (HP1.out.below hb2)
  have HB2 := Lib.hid (HB1.out.trans (hb2.mono h1))
  have e7 : IntKind.u8.wrap 7 = 7 := rfl
  rw [e7]
  clear hb2 HP1 HB1
  go_wp2_with fail
  have HW := Lib.hid (writep_c zeroM 32767 7 0 _ _ u2 HP2.out (HL.out _ HB2.out))
  rw [aw_1] at HW
  refine HW.out.mono ?_
  rintro _ u3 ⟨rfl, hg3, hP3⟩
  have h3 := hg3.size
  have HP3 := Lib.hid hP3
  have HB3 := Lib.hid (below_grown HB2.out hg3 (Nat.le_refl _))
  clear hg3 hP3 HP2 HB2 HW
  go_wp2_with fail
  refine (of_c 7 _).mono ?_
  rintro _ u4 ⟨rfl, hb4⟩
  have h4 := hb4.size
  have HP4 := Lib.hid (HP3.out.below hb4)
  have HB4 := Lib.hid (HB3.out.trans (hb4.mono (by omega)))
  rw [e7]
  clear hb4 HP3 HB3
  go_wp2_with fail
  have HW := Lib.hid (fun M (h : Pm (w.heap.size + 1) w.heap.size u4 M) => writep_c M 49152 7 0 _ _ u4 h (HL.out _ HB4.out))
  have HW2 := Lib.hid (HW.out _ HP4.out)
  rw [aw_2] at HW2
  refine HW2.out.mono ?_
  rintro _ u5 ⟨rfl, hg5, hP5⟩
  have h5 := hg5.size
  have HP5 := Lib.hid hP5
  have HB5 := Lib.hid (below_grown HB4.out hg5 (Nat.le_refl _))
  have hbase : w.heap.size ≤ u5.heap.size := by omega
  clear hg5 hP5 HP4 HB4 HW HW2 h1 h2 h3 h4
  have HR1 := Lib.hid (fun W (h : Below u5.heap.size u5 W) => readp_c _ 32767 _ _ W (HP5.out.below h) (HL.out _ (HB5.out.trans (h.mono (by omega)))))
  have HR2 := Lib.hid (fun W (h : Below u5.heap.size u5 W) => readp_c _ 49152 _ _ W (HP5.out.below h) (HL.out _ (HB5.out.trans (h.mono (by omega)))))
  have HR3 := Lib.hid (fun W (h : Below u5.heap.size u5 W) => readp_c _ 40000 _ _ W (HP5.out.below h) (HL.out _ (HB5.out.trans (h.mono (by omega)))))
  rw [aw_3] at HR1
  rw [aw_4] at HR2
  rw [aw_5] at HR3
  dsimp only at HR1 HR2 HR3
  go_wp2_with fail
  ((with_reducible refine (HR1.out _ (by go_grown)).mono ?_); rintro _ u6 ⟨rfl, hb⟩)
  have hz := hb.size
  (try simp only [World.size_alloc, World.size_setCell, World.size_drew] at hz)
  have hB' : Below u5.heap.size u5 u6 := by
      refine kb ?_ hb
      go_grown
  clear hb hz
  have hB := hB'; clear hB'
  have hsz := hB.size
  go_wp2_with fail
  ((with_reducible refine (HR2.out _ (by go_grown)).mono ?_); rintro _ u7 ⟨rfl, hb⟩)
  have T : CC u7 u6.heap.size 0 1 (.int .u8 7) (.int .u8 0) := by
      refine ⟨?_, ?_⟩ <;> refine kc hb ?_ <;> (go_simp; first | done | rfl)
  have hz := hb.size
  (try simp only [World.size_alloc, World.size_setCell, World.size_drew] at hz)
  have L : u6.heap.size < u7.heap.size := by omega
  have hB' : Below u5.heap.size u5 u7 := by
      refine kb ?_ hb
      go_grown
  clear hB hsz
  clear hb hz
  obtain ⟨ha_0, ha_1⟩ := T
  have hla := L; clear L
  obtain ⟨hna0, hna1, hka1, hna2, hka2⟩ := ap0 hla
  have hB := hB'; clear hB'
  have hsz := hB.size
  go_wp2_with fail
  ((with_reducible refine (HR3.out _ (by go_grown)).mono ?_); rintro _ u8 ⟨rfl, hb⟩)
  have T : CC u8 u6.heap.size 0 1 (.int .u8 7) (.int .u8 0) ∧ CC u8 u7.heap.size 0 1 (.int .u8 0) (.int .u8 0) := by
      refine ⟨⟨?_, ?_⟩, ⟨?_, ?_⟩⟩ <;> refine kc hb ?_ <;> (go_simp; first | done | rfl)
  have hz := hb.size
  (try simp only [World.size_alloc, World.size_setCell, World.size_drew] at hz)
  have L : u6.heap.size < u8.heap.size ∧ u7.heap.size < u8.heap.size := by omega
  have hB' : Below u5.heap.size u5 u8 := by
      refine kb ?_ hb
      go_grown
  clear ha_0 ha_1 hla hna0 hna1 hka1 hna2 hka2 hB hsz
  clear hb hz
  obtain ⟨⟨ha_0, ha_1⟩, ⟨hb_0, hb_1⟩⟩ := T
  obtain ⟨hla, hlb⟩ := L
  obtain ⟨hna0, hna1, hka1, hna2, hka2⟩ := ap0 hla
  obtain ⟨hnb0, hnb1, hkb1, hnb2, hkb2⟩ := ap0 hlb
  have hB := hB'; clear hB'
  have hsz := hB.size
  go_wp2
  go_ret
  exact ⟨rfl, HB5.out.trans (Below.mono (by go_grown) hbase)⟩
end Go.Proofs.YtoakgchfdihjbaaDoor
