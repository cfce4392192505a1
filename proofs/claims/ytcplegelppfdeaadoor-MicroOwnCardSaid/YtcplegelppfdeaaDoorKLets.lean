/-
  Kinds and cycles by the letters of a name, as lists; what a byte is by the document.
-/
import Derived.Test.YtcplegelppfdeaaDoorLets
import Derived.Test.YtcplegelppfdeaaDoorCyc
import Derived.Test.YtcplegelppfdeaaDoorPlace
set_option linter.unusedSimpArgs false
set_option linter.unusedVariables false
namespace Go.Proofs.YtcplegelppfdeaaDoor
open Go.RowKit Go.PlainAid

theorem inD_list (s l : ByteArray) (L : List (List UInt8)) (h : L.length = l.size / 3) (hL : ∀ j : Fin L.length, lets (l.extract (3 * j.val) (3 * j.val + 3)) = L[j.val]) : inD s l = L.any (· == lets s) := by
  unfold inD
  rw [Bool.eq_iff_iff, List.any_eq_true, List.any_eq_true]
  constructor
  · rintro ⟨j, hj, he⟩
    rw [← h] at hj
    have hj' := List.mem_range.1 hj
    refine ⟨L[j], List.getElem_mem hj', ?_⟩
    rw [ByteArray.toList_eq, ByteArray.toList_eq] at he
    rw [← hL ⟨j, hj'⟩]
    exact he
  · rintro ⟨n, hn, he⟩
    obtain ⟨j, hj, rfl⟩ := List.getElem_of_mem hn
    refine ⟨j, List.mem_range.2 (by rw [← h]; exact hj), ?_⟩
    rw [ByteArray.toList_eq, ByteArray.toList_eq]
    show (lets (l.extract (3 * j) (3 * j + 3)) == lets s) = true
    rw [hL ⟨j, hj⟩]
    exact he
def lR : List (List UInt8) := [[65, 68, 67], [65, 78, 68], [66, 73, 84], [67, 77, 80], [67, 80, 88], [67, 80, 89], [69, 79, 82], [76, 68, 65], [76, 68, 88], [76, 68, 89], [79, 82, 65], [83, 66, 67]]
theorem inR_list (s : ByteArray) : inR s = lR.any (· == lets s) := inD_list s nR lR (by decide) (by decide +kernel)
def lW : List (List UInt8) := [[83, 84, 65], [83, 84, 88], [83, 84, 89]]
theorem inW_list (s : ByteArray) : inW s = lW.any (· == lets s) := inD_list s nW lW (by decide) (by decide +kernel)
def lT : List (List UInt8) := [[65, 83, 76], [68, 69, 67], [73, 78, 67], [76, 83, 82], [82, 79, 76], [82, 79, 82]]
theorem inT_list (s : ByteArray) : inT s = lT.any (· == lets s) := inD_list s nT lT (by decide) (by decide +kernel)
def lJ : List (List UInt8) := [[66, 82, 75], [74, 77, 80], [74, 83, 82], [80, 72, 65], [80, 72, 80], [80, 76, 65], [80, 76, 80], [82, 84, 73], [82, 84, 83]]
theorem inJ_list (s : ByteArray) : inJ s = lJ.any (· == lets s) := inD_list s nJ lJ (by decide) (by decide +kernel)
/-- Kind and cycles by the letters. -/
def okindL (n : List UInt8) (m : Int) : Int := if lR.any (· == n) then 1 else if lW.any (· == n) then 2 else if lT.any (· == n) && m != 1 then 3 else if lJ.any (· == n) || m == 12 then 4 else 0
theorem kindD_list (s : ByteArray) (m : Int) : kindD s m = okindL (lets s) m := by
  unfold kindD okindL
  rw [inR_list, inW_list, inT_list, inJ_list]
def cycJL (n : List UInt8) (m : Int) : Int :=
  if m == 12 then 2 else if m == 11 then 5 else if n == [74, 77, 80] then 3 else if n == [80, 72, 65] then 3 else if n == [80, 72, 80] then 3
  else if n == [80, 76, 65] then 4 else if n == [80, 76, 80] then 4 else if n == [66, 82, 75] then 7 else 6
def cycL (n : List UInt8) (m : Int) : Int :=
  if okindL n m = 0 then 2 else if okindL n m = 1 then tR m else if okindL n m = 2 then tW m else if okindL n m = 3 then tT m else cycJL n m
theorem cycD_list (s : ByteArray) (m : Int) : cycD s m = cycL (lets s) m := by
  unfold cycD cycL cycJ cycJL
  rw [kindD_list, ByteArray.toList_eq]

/-- What a byte is, by the document: its name's letters, its mode, its kind, its cycles; none. -/
def opL (b : Nat) : Option (List UInt8 × Int × Int × Int) := match placeL.getD b none with
  | some n => some (nameL.getD (n / 13) [], ((n % 13 : Nat) : Int), okindL (nameL.getD (n / 13) []) ((n % 13 : Nat) : Int), cycL (nameL.getD (n / 13) []) ((n % 13 : Nat) : Int))
  | none => none
theorem placeD_byte (b : Nat) (hb : b < 256) : placeD b = placeL.getD b none := by rw [placeD_list]; exact place_all ⟨b, hb⟩
end Go.Proofs.YtcplegelppfdeaaDoor
