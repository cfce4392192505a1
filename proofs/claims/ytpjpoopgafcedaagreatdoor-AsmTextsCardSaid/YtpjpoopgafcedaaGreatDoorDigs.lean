/-
  Layer 5's document, its small calls: which modes' numbers are wide, what stands around a number, its digits.
-/
import Derived.Test.YtpjpoopgafcedaaGreatDoorRLets
import Derived.Test.YtpjpoopgafcedaaGreatDoorPlace
set_option linter.unusedSimpArgs false
set_option linter.unusedVariables false
namespace Go.Proofs.YtpjpoopgafcedaaGreatDoor
open Go.RowKit Go.PlainAid

theorem placeD_byte (b : Nat) (hb : b < 256) : placeD b = placeL.getD b none := by rw [placeD_list]; exact place_all ⟨b, hb⟩
/-- A text of letters. -/
abbrev txB (l : List UInt8) : ByteArray := ⟨l.toArray⟩
theorem txB_append (a b : List UInt8) : txB a ++ txB b = txB (a ++ b) := by
  apply ByteArray.ext
  simp
theorem txB_toList (l : List UInt8) : (txB l).toList = l := by rw [ByteArray.toList_eq]
def wideD (m : Int) : Bool := m == 6 || (m == 7 || (m == 8 || (m == 11 || m == 12)))
theorem wide_c (m : Int) (w : World) : Calls Tryz.prog 38 #[.int .i64 m] w fun e w' => e = .returned (.bool (wideD m)) ∧ w = w' := by
  have hm : wideD m = (m == 6 || (m == 7 || (m == 8 || (m == 11 || m == 12)))) := rfl
  generalize wideD m = V at *
  cases a6 : (m == 6) <;> cases a7 : (m == 7) <;> cases a8 : (m == 8) <;> cases a11 : (m == 11) <;> cases a12 : (m == 12)
  all_goals
    rw [a6, a7, a8, a11, a12] at hm
    subst hm
    go_enter Tryz.func38, Tryz.ntmps38
    go_wp2
    go_ret
    exact ⟨rfl, rfl⟩
/-- What stands ahead of a number, and behind it. -/
def aheadD (m : Int) : List UInt8 := if m == 2 then [35, 36] else if m == 9 || (m == 10 || m == 11) then [40, 36] else [36]
def behindD (m : Int) : List UInt8 := if m == 4 || m == 7 then [44, 88] else if m == 5 || m == 8 then [44, 89] else if m == 9 then [44, 88, 41] else if m == 10 then [41, 44, 89] else if m == 11 then [41] else []
theorem around_c (m : Int) (h0 : 0 ≤ m) (h1 : m ≤ 12) (w : World) : Calls Tryz.prog 37 #[.int .i64 m] w fun e w' => e = .returned (.tuple #[.string (txB (aheadD m)), .string (txB (behindD m))]) ∧ w = w' := by
  rcases modes m with h | h
  · rcases h with rfl | rfl | rfl | rfl | rfl | rfl | rfl | rfl | rfl | rfl | rfl | rfl | rfl
    all_goals
      go_enter Tryz.func37, Tryz.ntmps37
      go_wp2
      refine bodyPost_ret (v := .tuple #[.string (txB (aheadD _)), .string (txB (behindD _))]) (by simp [results, Tryz.results37, go_sem] <;> first | done | rfl | (constructor <;> rfl)) rfl ⟨rfl, rfl⟩
  · omega
/-- A hexadecimal digit's letter; a number's digits, so many. -/
def hexB : ByteArray := ⟨#[48, 49, 50, 51, 52, 53, 54, 55, 56, 57, 65, 66, 67, 68, 69, 70]⟩
def hexL (d : Nat) : UInt8 := if d < 10 then (48 + d).toUInt8 else (55 + d).toUInt8
def digsL (n : Nat) : Nat → List UInt8
  | 0 => []
  | k + 1 => hexL (n / 16 ^ k % 16) :: digsL n k
theorem digsL_len (n : Nat) : ∀ k, (digsL n k).length = k
  | 0 => rfl
  | k + 1 => by show (digsL n k).length + 1 = k + 1; rw [digsL_len n k]
theorem hex_at : ∀ d : Fin 16, hexB.extract d.val (d.val + 1) = txB [hexL d.val] := by decide +kernel
end Go.Proofs.YtpjpoopgafcedaaGreatDoor
