/-
  Layer 6, the library: a text split at its line ends.
-/
import Derived.Test.YtbnmibkmddhniaaDoorLines
import Derived.Test.YtbnmibkmddhniaaDoorShelf
import Derived.Shelf.Strings.SplitShaped
import Derived.Lib.IndexBytes
import Derived.Lib.SplitLaws
set_option linter.unusedSimpArgs false
set_option linter.unusedVariables false
namespace Go.Proofs.YtbnmibkmddhniaaDoor
open Go.RowKit Go.PlainAid

theorem linesA_none : ∀ (l cur : List UInt8), (∀ k : Nat, l[k]? ≠ some 10) → linesA cur l = [cur ++ l]
  | [], cur, _ => by rw [List.append_nil]; rfl
  | b :: l, cur, h => by
    have hb : ¬ b = 10 := fun e => h 0 (by rw [e]; rfl)
    show (if _ then _ else _) = _
    rw [if_neg hb, linesA_none l (cur ++ [b]) (fun k => h (k + 1)), List.append_assoc]
    rfl
theorem linesA_some : ∀ (l cur : List UInt8) (o : Nat), l[o]? = some 10 → (∀ k : Nat, k < o → l[k]? ≠ some 10) → linesA cur l = (cur ++ l.take o) :: linesA [] (l.drop (o + 1))
  | [], cur, o, h, _ => by simp at h
  | b :: l, cur, 0, h, _ => by
    have hb : b = 10 := by simpa using h
    show (if _ then _ else _) = _
    rw [if_pos hb]
    simp
  | b :: l, cur, o + 1, h, h2 => by
    have hb : ¬ b = 10 := fun e => h2 0 (by omega) (by rw [e]; rfl)
    show (if _ then _ else _) = _
    rw [if_neg hb, linesA_some l (cur ++ [b]) o (by simpa using h) (fun k hk => by have := h2 (k + 1) (by omega); simpa using this), List.append_assoc]
    rfl
theorem indexB_feed (s : ByteArray) : Lib.indexB s ⟨#[10]⟩ = Lib.indexByte s.data.toList 10 := Lib.index_one s.data.toList 10
theorem split_lines : ∀ (m : Nat) (l : List UInt8), l.length ≤ m → Lib.splitB ⟨#[10]⟩ 0 (Lib.countB (txB l) ⟨#[10]⟩) (txB l) = (linesA [] l).map txB := by
  intro m
  induction m with
  | zero =>
    intro l h
    obtain rfl : l = [] := List.length_eq_zero_iff.1 (by omega)
    have hi : Lib.indexB (txB []) ⟨#[10]⟩ = -1 := by rw [indexB_feed]; rfl
    rw [Lib.splitB_miss _ _ _ _ hi]
    rfl
  | succ m ih =>
    intro l h
    have ht : (txB l).data.toList = l := by simp [txB]
    rcases Lib.indexB_cases (txB l) ⟨#[10]⟩ with hi | ⟨i, hi, hr⟩
    · rw [Lib.splitB_miss _ _ _ _ hi]
      rw [indexB_feed, ht] at hi
      rw [linesA_none l [] (Lib.indexByte_none hi)]
      rfl
    · have hz : ByteArray.size ⟨#[10]⟩ = 1 := rfl
      rw [Lib.countB_hit _ _ i (by decide) hi, Nat.add_comm, Lib.splitB_hit _ _ _ _ i hi]
      rw [indexB_feed, ht] at hi
      obtain ⟨h1, h2⟩ := Lib.indexByte_some hi
      rw [txB_size] at hr
      have hr2 : i + 1 ≤ l.length := hr
      have e1 : (txB l).extract 0 (i + 0) = txB (l.take i) := by rw [txB_extract]; simp
      have e2 : (txB l).extract (i + 1) (txB l).size = txB (l.drop (i + 1)) := by rw [txB_extract, txB_size]; simp
      show (txB l).extract 0 (i + 0) :: Lib.splitB ⟨#[10]⟩ 0 (Lib.countB ((txB l).extract (i + 1) (txB l).size) ⟨#[10]⟩) ((txB l).extract (i + 1) (txB l).size) = _
      rw [e1, e2, ih (l.drop (i + 1)) (by rw [List.length_drop]; omega), linesA_some l [] i h1 h2]
      simp
theorem count_feed (s : ByteArray) : Lib.countB s ⟨#[10]⟩ = Lib.countByte s.data.toList 10 := Lib.count_one 10 s.data.toList
set_option maxHeartbeats 1000000 in
theorem split_c (l : List UInt8) (hl : l.length ≤ 100000) (w : World) : Calls Tryd.prog 15 #[.string (txB l), .string ⟨#[10]⟩] w fun e w' => e = .returned (.slice (some ⟨w.heap.size, 0, none⟩) (linesA [] l).length (linesA [] l).length) ∧ w' = w.alloc (.cells ((linesA [] l).map fun x => Value.string (txB x)).toArray 9) := by
  have hs : (txB l).size < 4294967281 := by rw [txB_size]; omega
  have h1 : 1 ≤ ByteArray.size ⟨#[10]⟩ := by decide
  have hi9 : (Tryd.prog.info? 9).map (fun i => (i.zero, i.size, i.bytes)) = some (some (.string ByteArray.empty), 1, 16) := by kernel_rfl
  have hle := Lib.countB_le ⟨#[10]⟩ h1 (txB l).size (txB l) (Nat.le_refl _)
  have hlen := Lib.splitB_all ⟨#[10]⟩ h1 0 _ (txB l) rfl
  have hsp := split_lines l.length l (Nat.le_refl _)
  have c := Any.strings_genSplit_core { Tryd.lays146 with } hi9 (txB l) ⟨#[10]⟩ 0 (-1) (Lib.countB (txB l) ⟨#[10]⟩ + 1) w hs h1 (Nat.zero_le _)
    (fun x cs hx => (Tryd.strings_Index_one x 10 _).mono fun e w' ⟨he, hw⟩ => ⟨by rw [he, indexB_feed], hw⟩)
    ((Tryd.strings_Count_one (txB l) 10 w).mono fun e w' ⟨he, hw⟩ => ⟨by rw [he, count_feed], hw⟩)
    (by decide) (by decide) (by rw [if_pos (by decide)]; omega)
  rw [Nat.add_sub_cancel, hlen] at c
  have hn : Lib.countB (txB l) ⟨#[10]⟩ + 1 = (linesA [] l).length := by rw [← hlen, hsp, List.length_map]
  have e2 : Lib.cellsOf (Lib.splitB ⟨#[10]⟩ 0 (Lib.countB (txB l) ⟨#[10]⟩) (txB l)) (Lib.countB (txB l) ⟨#[10]⟩ + 1) = ((linesA [] l).map fun x => Value.string (txB x)).toArray := by
    rw [hn, hsp, show (linesA [] l).length = ((linesA [] l).map txB).length from by rw [List.length_map], Lib.cellsOf_full, List.map_map]
    rfl
  rw [e2, hn] at c
  generalize (linesA [] l).length = n at *
  generalize ((linesA [] l).map fun x => Value.string (txB x)).toArray = A at *
  generalize txB l = S at *
  have HC := Lib.hid c
  clear c e2 hn hsp hlen hle hs
  go_enter Tryd.func15, Tryd.ntmps15
  go_wp2_with (go_at_call 26; refine (HC.out).mono ?_; rintro _ _ ⟨rfl, rfl⟩)
  go_ret
  exact ⟨rfl, rfl⟩
end Go.Proofs.YtbnmibkmddhniaaDoor
