/-
  Layer 5's laws: the chapter's examples.
-/
import Derived.Test.YtpjpoopgafcedaaGreatDoorReadpAll
import Derived.Test.YtpjpoopgafcedaaGreatDoorParsel
import Derived.Test.YtpjpoopgafcedaaGreatDoorSame
set_option linter.unusedSimpArgs false
set_option linter.unusedVariables false
namespace Go.Proofs.YtpjpoopgafcedaaGreatDoor
open Go.RowKit Go.PlainAid Go.Joins

theorem lda_text : printL 169 16 = [76, 68, 65, 32, 35, 36, 49, 48] ∧ wrongD 169 16 = 0 := by decide +kernel
theorem bne_bytes : bytesL 208 510 512 = [208, 252] ∧ bytesE 208 510 512 = 0 := by decide +kernel
theorem holds_two (W : World) (x y : Int) : Holds (W.alloc (.cells #[.int .u8 x, .int .u8 y] 5)) (.slice (some ⟨W.heap.size, 0, none⟩) 2 2) [x, y] := by
  refine .inr ⟨W.heap.size, 0, 2, rfl, fun j z hz => ?_⟩
  match j, hz with
  | 0, hz => simp at hz; subst hz; go_simp
  | 1, hz => simp at hz; subst hz; go_simp
theorem lda_c (w : World) (hl : Laid w) : Calls Tryz.prog 8 #[.agg #[.int .u8 169, .int .i64 16]] w fun e w' => e = .returned (.tuple #[.string (txB [76, 68, 65, 32, 35, 36, 49, 48]), .int .i64 0]) ∧ Below w.heap.size w w' := by
  have h := printl_c 169 (by omega) 16 w hl
  rw [lda_text.1, lda_text.2] at h
  exact h
theorem bne_c (w : World) (hl : Laid w) : Calls Tryz.prog 9 #[.agg #[.int .u8 208, .int .i64 510], .int .i64 512] w (BytesEnd w [208, 252] 0) := by
  have h := bytp_c 208 (by omega) 510 512 w hl
  rw [bne_bytes.1, bne_bytes.2] at h
  exact h
set_option maxRecDepth 100000 in
set_option maxHeartbeats 1000000 in
theorem awake_c (w : World) (hl : Laid w) : Calls Tryz.prog 4 #[] w fun e w' => e = .returned (.bool true) ∧ Below w.heap.size w w' := by
  have HP := Lib.hid lda_c
  have HB := Lib.hid bne_c
  have ht : ((txB [76, 68, 65, 32, 35, 36, 49, 48]).toList == [76, 68, 65, 32, 35, 36, 49, 48]) = true := by rw [txB_toList]; rfl
  go_enter Tryz.func4, Tryz.ntmps4
  go_wp2_with fail
  ((with_reducible refine (HP.out _ hl).mono ?_); rintro _ w1 ⟨rfl, hb⟩)
  have hz := hb.size
  (try simp only [World.size_alloc, World.size_setCell, World.size_drew] at hz)
  have hB' : Below w.heap.size w w1 := by
      refine kb ?_ hb
      go_grown
  clear hb hz
  have hB := hB'; clear hB'
  have hsz := hB.size
  go_wp2_with fail
  refine (HB.out _ (hl.below hB)).mono ?_
  rintro _ w2 ⟨v, rfl, hown, hb⟩
  have hB' : Below w.heap.size w w2 := kb hB hb
  have hH := Lib.hid (holds_own hown)
  clear hB hsz hb hown
  have hB := hB'
  have hsz := hB.size
  clear hB'
  go_wp2_with fail
  have hS := same_c v _ [208, 252] [208, 252] _ (hH.out.below ((Below.refl _ w2).alloc (Nat.le_refl _) _)) (holds_two w2 208 252) (by decide)
  have e : (([208, 252] : List Int) == [208, 252]) = true := by decide
  rw [e] at hS
  ((with_reducible refine (hS).mono ?_); rintro _ w3 ⟨rfl, hb⟩)
  have hz := hb.size
  (try simp only [World.size_alloc, World.size_setCell, World.size_drew] at hz)
  have hB' : Below w.heap.size w w3 := by
      refine kb ?_ hb
      go_grown
  clear hB hsz
  clear hb hz
  have hB := hB'; clear hB'
  have hsz := hB.size
  go_wp2
  go_ret
  exact ⟨rfl, by go_grown⟩
end Go.Proofs.YtpjpoopgafcedaaGreatDoor
