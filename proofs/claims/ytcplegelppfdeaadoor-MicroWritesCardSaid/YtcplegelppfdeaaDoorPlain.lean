/-
  The document's table as lists: the bytes by rows and modes, the names.
-/
import Derived.Test.YtcplegelppfdeaaDoorTab
set_option linter.unusedSimpArgs false
set_option linter.unusedVariables false
namespace Go.Proofs.YtcplegelppfdeaaDoor
open Go.RowKit Go.PlainAid

set_option maxHeartbeats 4000000 in
def atN : List Nat := [
  256, 256, 105, 101, 117, 256, 109, 125, 121, 97, 113, 256, 256, 256, 256, 41, 37, 53, 256, 45, 61, 57, 33, 49, 256, 256,
  256, 10, 256, 6, 22, 256, 14, 30, 256, 256, 256, 256, 256, 256, 256, 256, 256, 256, 256, 256, 256, 256, 256, 256, 256, 144,
  256, 256, 256, 256, 256, 256, 256, 256, 256, 256, 256, 256, 176, 256, 256, 256, 256, 256, 256, 256, 256, 256, 256, 256, 256, 240,
  256, 256, 256, 36, 256, 256, 44, 256, 256, 256, 256, 256, 256, 256, 256, 256, 256, 256, 256, 256, 256, 256, 256, 256, 256, 48,
  256, 256, 256, 256, 256, 256, 256, 256, 256, 256, 256, 256, 208, 256, 256, 256, 256, 256, 256, 256, 256, 256, 256, 256, 256, 16,
  0, 256, 256, 256, 256, 256, 256, 256, 256, 256, 256, 256, 256, 256, 256, 256, 256, 256, 256, 256, 256, 256, 256, 256, 256, 80,
  256, 256, 256, 256, 256, 256, 256, 256, 256, 256, 256, 256, 112, 24, 256, 256, 256, 256, 256, 256, 256, 256, 256, 256, 256, 256,
  216, 256, 256, 256, 256, 256, 256, 256, 256, 256, 256, 256, 256, 88, 256, 256, 256, 256, 256, 256, 256, 256, 256, 256, 256, 256,
  184, 256, 256, 256, 256, 256, 256, 256, 256, 256, 256, 256, 256, 256, 256, 201, 197, 213, 256, 205, 221, 217, 193, 209, 256, 256,
  256, 256, 224, 228, 256, 256, 236, 256, 256, 256, 256, 256, 256, 256, 256, 192, 196, 256, 256, 204, 256, 256, 256, 256, 256, 256,
  256, 256, 256, 198, 214, 256, 206, 222, 256, 256, 256, 256, 256, 202, 256, 256, 256, 256, 256, 256, 256, 256, 256, 256, 256, 256,
  136, 256, 256, 256, 256, 256, 256, 256, 256, 256, 256, 256, 256, 256, 256, 73, 69, 85, 256, 77, 93, 89, 65, 81, 256, 256,
  256, 256, 256, 230, 246, 256, 238, 254, 256, 256, 256, 256, 256, 232, 256, 256, 256, 256, 256, 256, 256, 256, 256, 256, 256, 256,
  200, 256, 256, 256, 256, 256, 256, 256, 256, 256, 256, 256, 256, 256, 256, 256, 256, 256, 256, 76, 256, 256, 256, 256, 108, 256,
  256, 256, 256, 256, 256, 256, 32, 256, 256, 256, 256, 256, 256, 256, 256, 169, 165, 181, 256, 173, 189, 185, 161, 177, 256, 256,
  256, 256, 162, 166, 256, 182, 174, 256, 190, 256, 256, 256, 256, 256, 256, 160, 164, 180, 256, 172, 188, 256, 256, 256, 256, 256,
  256, 74, 256, 70, 86, 256, 78, 94, 256, 256, 256, 256, 256, 234, 256, 256, 256, 256, 256, 256, 256, 256, 256, 256, 256, 256,
  256, 256, 9, 5, 21, 256, 13, 29, 25, 1, 17, 256, 256, 72, 256, 256, 256, 256, 256, 256, 256, 256, 256, 256, 256, 256,
  8, 256, 256, 256, 256, 256, 256, 256, 256, 256, 256, 256, 256, 104, 256, 256, 256, 256, 256, 256, 256, 256, 256, 256, 256, 256,
  40, 256, 256, 256, 256, 256, 256, 256, 256, 256, 256, 256, 256, 256, 42, 256, 38, 54, 256, 46, 62, 256, 256, 256, 256, 256,
  256, 106, 256, 102, 118, 256, 110, 126, 256, 256, 256, 256, 256, 64, 256, 256, 256, 256, 256, 256, 256, 256, 256, 256, 256, 256,
  96, 256, 256, 256, 256, 256, 256, 256, 256, 256, 256, 256, 256, 256, 256, 233, 229, 245, 256, 237, 253, 249, 225, 241, 256, 256,
  56, 256, 256, 256, 256, 256, 256, 256, 256, 256, 256, 256, 256, 248, 256, 256, 256, 256, 256, 256, 256, 256, 256, 256, 256, 256,
  120, 256, 256, 256, 256, 256, 256, 256, 256, 256, 256, 256, 256, 256, 256, 256, 133, 149, 256, 141, 157, 153, 129, 145, 256, 256,
  256, 256, 256, 134, 256, 150, 142, 256, 256, 256, 256, 256, 256, 256, 256, 256, 132, 148, 256, 140, 256, 256, 256, 256, 256, 256,
  170, 256, 256, 256, 256, 256, 256, 256, 256, 256, 256, 256, 256, 168, 256, 256, 256, 256, 256, 256, 256, 256, 256, 256, 256, 256,
  186, 256, 256, 256, 256, 256, 256, 256, 256, 256, 256, 256, 256, 138, 256, 256, 256, 256, 256, 256, 256, 256, 256, 256, 256, 256,
  154, 256, 256, 256, 256, 256, 256, 256, 256, 256, 256, 256, 256, 152, 256, 256, 256, 256, 256, 256, 256, 256, 256, 256, 256, 256]
def atL : List Int := atN.map fun (n : Nat) => if n = 256 then (-1 : Int) else (n : Int)
set_option maxHeartbeats 4000000 in
def nameL : List (List UInt8) := [
  [65, 68, 67], [65, 78, 68], [65, 83, 76], [66, 67, 67], [66, 67, 83], [66, 69, 81], [66, 73, 84], [66, 77, 73],
  [66, 78, 69], [66, 80, 76], [66, 82, 75], [66, 86, 67], [66, 86, 83], [67, 76, 67], [67, 76, 68], [67, 76, 73],
  [67, 76, 86], [67, 77, 80], [67, 80, 88], [67, 80, 89], [68, 69, 67], [68, 69, 88], [68, 69, 89], [69, 79, 82],
  [73, 78, 67], [73, 78, 88], [73, 78, 89], [74, 77, 80], [74, 83, 82], [76, 68, 65], [76, 68, 88], [76, 68, 89],
  [76, 83, 82], [78, 79, 80], [79, 82, 65], [80, 72, 65], [80, 72, 80], [80, 76, 65], [80, 76, 80], [82, 79, 76],
  [82, 79, 82], [82, 84, 73], [82, 84, 83], [83, 66, 67], [83, 69, 67], [83, 69, 68], [83, 69, 73], [83, 84, 65],
  [83, 84, 88], [83, 84, 89], [84, 65, 88], [84, 65, 89], [84, 83, 88], [84, 88, 65], [84, 88, 83], [84, 89, 65]]
set_option maxHeartbeats 4000000 in
def placeL : List (Option Nat) := [
  some 130, some 451, none, none, none, some 445, some 29, none, some 468, some 444, some 27, none, none, some 448, some 32, none,
  some 129, some 452, none, none, none, some 446, some 30, none, some 169, some 450, none, none, none, some 449, some 33, none,
  some 370, some 22, none, none, some 81, some 16, some 510, none, some 494, some 15, some 508, none, some 84, some 19, some 513, none,
  some 103, some 23, none, none, none, some 17, some 511, none, some 572, some 21, none, none, none, some 20, some 514, none,
  some 533, some 308, none, none, none, some 302, some 419, none, some 455, some 301, some 417, none, some 357, some 305, some 422, none,
  some 155, some 309, none, none, none, some 303, some 420, none, some 195, some 307, none, none, none, some 306, some 423, none,
  some 546, some 9, none, none, none, some 3, some 523, none, some 481, some 2, some 521, none, some 362, some 6, some 526, none,
  some 168, some 10, none, none, none, some 4, some 524, none, some 598, some 8, none, none, none, some 7, some 527, none,
  none, some 620, none, none, some 640, some 614, some 627, none, some 286, none, some 689, none, some 643, some 617, some 630, none,
  some 51, some 621, none, none, some 641, some 615, some 629, none, some 715, some 619, some 702, none, none, some 618, none, none,
  some 405, some 386, some 392, none, some 406, some 380, some 393, none, some 663, some 379, some 650, none, some 409, some 383, some 396, none,
  some 64, some 387, none, none, some 407, some 381, some 395, none, some 208, some 385, some 676, none, some 410, some 384, some 398, none,
  some 249, some 230, none, none, some 250, some 224, some 263, none, some 338, some 223, some 273, none, some 253, some 227, some 266, none,
  some 116, some 231, none, none, none, some 225, some 264, none, some 182, some 229, none, none, none, some 228, some 267, none,
  some 236, some 568, none, none, some 237, some 562, some 315, none, some 325, some 561, some 429, none, some 240, some 565, some 318, none,
  some 77, some 569, none, none, none, some 563, some 316, none, some 585, some 567, none, none, none, some 566, some 319, none]

/-- Byte i of a list of bytes, as a number. -/
def btL (l : List UInt8) (i : Nat) : Int := match l[i]? with | some b => (b.toNat : Int) | none => 0
theorem bt_list (T : ByteArray) (l : List UInt8) (h : T.data = l.toArray) (i : Nat) : bt T i = btL l i := by
  have e : T = ⟨l.toArray⟩ := by cases T; simp at h; rw [h]
  subst e
  unfold bt btL
  by_cases hi : i < l.length
  · rw [dif_pos (show i < ByteArray.size ⟨l.toArray⟩ from by show i < l.toArray.size; simpa using hi), List.getElem?_eq_getElem hi]
    rfl
  · rw [dif_neg (show ¬ i < ByteArray.size ⟨l.toArray⟩ from by show ¬ i < l.toArray.size; simpa using hi), List.getElem?_eq_none (by omega)]

noncomputable def tabL : List UInt8 := tab.data.toList
theorem at_list (r m : Nat) : atD r m = if btL tabL (43 * r + 4 + 3 * m) = 46 then -1 else 16 * dg (btL tabL (43 * r + 4 + 3 * m)) + dg (btL tabL (43 * r + 4 + 3 * m + 1)) := by
  unfold atD
  rw [bt_list tab tabL (by unfold tabL; simp), bt_list tab tabL (by unfold tabL; simp)]
/-- The rows' bytes off the list, three letters a mode. -/
def rowL (l : List UInt8) : Nat → List Int
  | 0 => []
  | k + 1 => match l with
    | a :: b :: _ :: t => (if (a.toNat : Int) = 46 then -1 else 16 * dg a.toNat + dg b.toNat) :: rowL t k
    | _ => []
def allL (l : List UInt8) : Nat → List Int
  | 0 => []
  | k + 1 => rowL (l.drop 4) 13 ++ allL (l.drop 43) k
theorem all_at : allL tabL 56 = atL := by kernel_rfl
theorem rowL_get : ∀ (k : Nat) (l : List UInt8) (m : Nat), m < k → 3 * k ≤ l.length → (rowL l k)[m]? = some (if btL l (3 * m) = 46 then -1 else 16 * dg (btL l (3 * m)) + dg (btL l (3 * m + 1)))
  | 0, l, m, h, _ => by omega
  | k + 1, l, m, h, hl => by
    match l, hl with
    | a :: b :: c :: t, hl =>
      show ((if (a.toNat : Int) = 46 then -1 else 16 * dg a.toNat + dg b.toNat) :: rowL t k)[m]? = _
      match m, h with
      | 0, _ => rfl
      | m + 1, h =>
        rw [List.getElem?_cons_succ, rowL_get k t m (by omega) (by simp at hl; omega)]
        have e1 : btL (a :: b :: c :: t) (3 * (m + 1)) = btL t (3 * m) := rfl
        have e2 : btL (a :: b :: c :: t) (3 * (m + 1) + 1) = btL t (3 * m + 1) := rfl
        rw [e1, e2]
    | [], hl => exact absurd hl (by simp only [List.length_nil]; omega)
    | [_], hl => exact absurd hl (by simp only [List.length_cons, List.length_nil]; omega)
    | [_, _], hl => exact absurd hl (by simp only [List.length_cons, List.length_nil]; omega)
theorem rowL_len : ∀ (k : Nat) (l : List UInt8), 3 * k ≤ l.length → (rowL l k).length = k
  | 0, l, _ => by simp [rowL]
  | k + 1, l, hl => by
    match l, hl with
    | a :: b :: c :: t, hl =>
      show (_ :: rowL t k).length = k + 1
      rw [List.length_cons, rowL_len k t (by simp at hl; omega)]
    | [], hl => exact absurd hl (by simp only [List.length_nil]; omega)
    | [_], hl => exact absurd hl (by simp only [List.length_cons, List.length_nil]; omega)
    | [_, _], hl => exact absurd hl (by simp only [List.length_cons, List.length_nil]; omega)
theorem btL_drop (l : List UInt8) (n i : Nat) : btL (l.drop n) i = btL l (n + i) := by
  unfold btL; rw [List.getElem?_drop]
theorem allL_get : ∀ (k : Nat) (l : List UInt8) (r m : Nat), r < k → m < 13 → 43 * k ≤ l.length →
    (allL l k)[13 * r + m]? = some (if btL l (43 * r + 4 + 3 * m) = 46 then -1 else 16 * dg (btL l (43 * r + 4 + 3 * m)) + dg (btL l (43 * r + 4 + 3 * m + 1)))
  | 0, l, r, m, h, _, _ => by omega
  | k + 1, l, r, m, h, hm, hl => by
    have hlen : (rowL (l.drop 4) 13).length = 13 := rowL_len 13 _ (by simp; omega)
    show (rowL (l.drop 4) 13 ++ allL (l.drop 43) k)[13 * r + m]? = _
    by_cases h0 : r = 0
    · subst h0
      rw [List.getElem?_append_left (by omega), show 13 * 0 + m = m by omega, rowL_get 13 _ m hm (by simp; omega), btL_drop, btL_drop]
      have e1 : 4 + 3 * m = 43 * 0 + 4 + 3 * m := by omega
      have e2 : 4 + (3 * m + 1) = 43 * 0 + 4 + 3 * m + 1 := by omega
      rw [e1, e2]
    · rw [List.getElem?_append_right (by omega), hlen, show 13 * r + m - 13 = 13 * (r - 1) + m by omega, allL_get k (l.drop 43) (r - 1) m (by omega) hm (by simp; omega), btL_drop, btL_drop]
      have e1 : 43 + (43 * (r - 1) + 4 + 3 * m) = 43 * r + 4 + 3 * m := by omega
      have e2 : 43 + (43 * (r - 1) + 4 + 3 * m + 1) = 43 * r + 4 + 3 * m + 1 := by omega
      rw [e1, e2]
theorem tabL_len : tabL.length = 2408 := by kernel_rfl
theorem at_eq (r m : Nat) (hr : r < 56) (hm : m < 13) : atL[13 * r + m]? = some (atD r m) := by
  rw [at_list, ← all_at]
  exact allL_get 56 tabL r m hr hm (by rw [tabL_len]; omega)
theorem atL_len : atL.length = 728 := by kernel_rfl
theorem name_list : ∀ r : Fin 56, (nameD r.val).data.toList = nameL.getD r.val [] := by decide +kernel
end Go.Proofs.YtcplegelppfdeaaDoor
