/-
  Layer 14: the document's steps: words of a text, by their names.
-/
import Derived.Test.YtcplegelppfdeaaDoorBase
import Derived.Test.YtcplegelppfdeaaDoorFrame
set_option linter.unusedSimpArgs false
set_option linter.unusedVariables false
namespace Go.Proofs.YtcplegelppfdeaaDoor
open Go.RowKit Go.PlainAid

/-- The steps' names, by their numbers. -/
def nmS : List (List UInt8) := [
  [78, 101, 120, 116],
  [76, 111, 119],
  [72, 105, 103, 104],
  [86, 97, 108, 117, 101],
  [73, 110, 100, 101, 120],
  [80, 116, 114, 76, 111, 119],
  [80, 116, 114, 72, 105, 103, 104],
  [78, 101, 97, 114],
  [71, 101, 116],
  [79, 108, 100],
  [66, 97, 99, 107],
  [78, 101, 119],
  [80, 117, 116],
  [80, 101, 101, 107],
  [80, 117, 115, 104, 72, 105, 103, 104],
  [80, 117, 115, 104, 76, 111, 119],
  [80, 117, 115, 104, 80],
  [80, 117, 115, 104, 65],
  [80, 117, 108, 108, 76, 111, 119],
  [80, 117, 108, 108, 72, 105, 103, 104],
  [80, 117, 108, 108, 80],
  [80, 117, 108, 108, 65],
  [70, 97, 114, 76, 111, 119],
  [70, 97, 114, 72, 105, 103, 104],
  [74, 117, 109, 112],
  [83, 107, 105, 112],
  [79, 102, 102, 115, 101, 116],
  [84, 97, 107, 101],
  [67, 114, 111, 115, 115],
  [86, 101, 99, 76, 111, 119],
  [86, 101, 99, 72, 105, 103, 104],
  [68, 114, 111, 112]]
def nameS (k : Nat) : List UInt8 := nmS.getD k []
/-- The numbers up to K that a word names. -/
def hitsS (wd : List UInt8) : Nat → List Int
  | 0 => []
  | k + 1 => if nameS k == wd then hitsS wd k ++ [(k : Int)] else hitsS wd k
/-- What a text comes to, read so far: the word, the steps. -/
def readS14 (l : List UInt8) : Nat → List UInt8 × List Int
  | 0 => ([], [])
  | i + 1 => if i < l.length ∧ at8 l i ≠ 32 then ((readS14 l i).1 ++ [at8 l i], (readS14 l i).2) else ([], (readS14 l i).2 ++ hitsS (readS14 l i).1 32)
def stepsL (l : List UInt8) : List Int := (readS14 l (l.length + 1)).2
theorem hitsS_len (wd : List UInt8) : ∀ k, (hitsS wd k).length ≤ k
  | 0 => Nat.le_refl _
  | k + 1 => by
    have := hitsS_len wd k
    unfold hitsS
    split
    · rw [List.length_append, List.length_singleton]; omega
    · omega
theorem readS14_word (l : List UInt8) : ∀ i, (readS14 l i).1.length ≤ i
  | 0 => Nat.le_refl _
  | i + 1 => by
    have := readS14_word l i
    unfold readS14
    split
    · dsimp only; rw [List.length_append, List.length_singleton]; omega
    · exact Nat.zero_le _
theorem readS14_steps (l : List UInt8) : ∀ i, (readS14 l i).2.length ≤ 32 * i
  | 0 => Nat.le_refl _
  | i + 1 => by
    have := readS14_steps l i
    have h := hitsS_len (readS14 l i).1 32
    unfold readS14
    split
    · dsimp only; omega
    · dsimp only; rw [List.length_append]; omega
theorem one_char (l : List UInt8) (i : Nat) (h : i < l.length) : (l.take (i + 1)).drop i = [at8 l i] := by
  rw [List.drop_take, show i + 1 - i = 1 by omega, List.drop_eq_getElem_cons h, at8_get l i h]
  rfl
end Go.Proofs.YtcplegelppfdeaaDoor
