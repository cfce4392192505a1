/-
  Layer 5's document: the line of a text, by its letters.
-/
import Derived.Test.YtpjpoopgafcedaaGreatDoorScan
set_option linter.unusedSimpArgs false
set_option linter.unusedVariables false
namespace Go.Proofs.YtpjpoopgafcedaaGreatDoor
open Go.RowKit Go.PlainAid

/-- The row of a name; -1: there is none. The opcode of a row in a mode, off the list. -/
def rowL3 (l : List UInt8) : Int := match nameL.findIdx? (· == l) with | some r => (r : Int) | none => -1
def atRL (r : Int) (m : Nat) : Int := atL.getD (13 * r.toNat + m) 0
def greatL (l : List UInt8) : Bool := greatI (btL l 0) && (greatI (btL l 1) && greatI (btL l 2))
def isText (l : List UInt8) : Bool := !decide (l.length < 3) && greatL l
def parseO (l : List UInt8) : Int := if isText l then scanOp (fun m => writtenD (l.drop 3) m) (atRL (rowL3 (l.take 3))) (rowL3 (l.take 3)) else 0
def parseN (l : List UInt8) : Int := if isText l then scanN (fun m => writtenD (l.drop 3) m) (atRL (rowL3 (l.take 3))) (rowL3 (l.take 3)) else 0
def parseE (l : List UInt8) : Int := if isText l then scanE (fun m => writtenD (l.drop 3) m) (atRL (rowL3 (l.take 3))) (rowL3 (l.take 3)) else 11
theorem below_of_eq {w w' : World} (h : w = w') : Below w.heap.size w w' := by subst h; exact Below.refl _ _
theorem row_lt (l : List UInt8) : rowL3 l < 56 := by
  unfold rowL3
  cases h : nameL.findIdx? (· == l) with
  | none => decide
  | some r =>
    rw [List.findIdx?_eq_some_iff_getElem] at h
    obtain ⟨h1, _⟩ := h
    have : nameL.length = 56 := by decide
    show (r : Int) < 56
    omega
theorem parse_c (l : List UInt8) (w : World) : Calls Tryz.prog 13 #[.string (txB l)] w fun e w' => e = .returned (.tuple #[.agg #[.int .i64 (parseO l), .int .i64 (parseN l)], .int .i64 (parseE l)]) ∧ Below w.heap.size w w' := by
  have hz := txB_size l
  by_cases h : l.length < 3
  · have hi : isText l = false := by unfold isText; rw [decide_eq_true h]; rfl
    have e1 : parseO l = 0 := by unfold parseO; rw [hi]; rfl
    have e2 : parseN l = 0 := by unfold parseN; rw [hi]; rfl
    have e3 : parseE l = 11 := by unfold parseE; rw [hi]; rfl
    rw [e1, e2, e3]
    exact parse_short (txB l) (by rw [hz]; exact h) w
  · have hi : isText l = greatL l := by unfold isText; rw [decide_eq_false h]; rfl
    have hb : (greatI (bt (txB l) 0) && (greatI (bt (txB l) 1) && greatI (bt (txB l) 2))) = isText l := by
      rw [hi, bt_list (txB l) l rfl, bt_list (txB l) l rfl, bt_list (txB l) l rfl]; rfl
    refine parse_long (txB l) (txB (l.take 3)) (txB (l.drop 3)) (fun m => writtenD (l.drop 3) m) (atRL (rowL3 (l.take 3))) (rowL3 (l.take 3)) (by rw [hz]; exact h) (fun W => ?_) (fun W => ?_) (fun w => ?_) (fun k hk w => ?_) (fun k hk hr w => ?_)
      (parseO l) (parseN l) (parseE l) (fun hg => ?_) (fun hg => ?_) w
    · rw [run_slice_string_h (ht := Tryz.underlying9) (h0 := by omega) (h2 := by rw [hz]; omega), txB_extract]
      rfl
    · rw [run_slice_string_l (ht := Tryz.underlying9) (h0 := by omega) (h1 := by rw [hz]; omega), txB_extract, hz]
      show _ = Result.ok (Value.string (txB (l.drop 3))) W
      rw [List.take_length]
      rfl
    · have := row_c (txB (l.take 3)) w
      have e : rowD (txB (l.take 3)) = rowL3 (l.take 3) := by
        have hl : lets (txB (l.take 3)) = l.take 3 := by simp
        unfold rowL3
        rw [rowD_list, hl]
        cases nameL.findIdx? (· == l.take 3) <;> rfl
      rw [e] at this
      exact this
    · exact (writ_c (l.drop 3) k (by omega) (by omega) w).mono fun e w' ⟨h1, h2⟩ => ⟨h1, below_of_eq h2⟩
    · have hlt := row_lt (l.take 3)
      have := at_c (rowL3 (l.take 3)).toNat k (by omega) hk w
      have e : atD (rowL3 (l.take 3)).toNat k = atRL (rowL3 (l.take 3)) k := by
        have h1 := at_eq (rowL3 (l.take 3)).toNat k (by omega) hk
        unfold atRL
        rw [List.getD, h1, Option.getD_some]
      rw [e, Int.toNat_of_nonneg hr] at this
      exact this
    · rw [hb] at hg
      unfold parseO parseN parseE
      rw [hg]
      exact ⟨rfl, rfl, rfl⟩
    · rw [hb] at hg
      unfold parseO parseN parseE
      rw [hg]
      exact ⟨rfl, rfl, rfl⟩
end Go.Proofs.YtpjpoopgafcedaaGreatDoor
