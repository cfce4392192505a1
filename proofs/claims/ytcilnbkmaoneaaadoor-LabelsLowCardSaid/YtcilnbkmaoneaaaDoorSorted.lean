/-
  Layer 7: spans by rising addresses: what the document's insertion and the program's sort come to; a policy that is sorted.
-/
import Derived.Test.YtcilnbkmaoneaaaDoorSortAll
import Derived.Test.YtcilnbkmaoneaaaDoorLines
set_option linter.unusedSimpArgs false
set_option linter.unusedVariables false
namespace Go.Proofs.YtcilnbkmaoneaaaDoor
open Go.Shelf Go.RowKit Go.Lib Go.Sort Go.PlainAid

/-- One more span, behind those that do not begin behind it. -/
def insS (x : Sp) (l : List Sp) : List Sp := l.takeWhile (fun y => decide (y.f ≤ x.f)) ++ x :: l.dropWhile (fun y => decide (y.f ≤ x.f))
def sortA (acc : List Sp) : List Sp → List Sp
  | [] => acc
  | x :: r => sortA (insS x acc) r
def sortS (l : List Sp) : List Sp := sortA [] l
theorem insS_len (x : Sp) (l : List Sp) : (insS x l).length = l.length + 1 := by
  unfold insS
  have : (l.takeWhile (fun y => decide (y.f ≤ x.f)) ++ l.dropWhile (fun y => decide (y.f ≤ x.f))).length = l.length := by rw [List.takeWhile_append_dropWhile]
  rw [List.length_append] at this ⊢
  rw [List.length_cons]; omega
theorem sortA_len : ∀ (l acc : List Sp), (sortA acc l).length = acc.length + l.length
  | [], acc => rfl
  | x :: r, acc => by rw [sortA, sortA_len r, insS_len, List.length_cons]; omega
theorem sortS_len (l : List Sp) : (sortS l).length = l.length := by unfold sortS; rw [sortA_len]; simp
theorem drop_gt {x : Sp} : ∀ {l : List Sp}, SortL (fun y : Sp => y.f) l → ∀ y ∈ l.dropWhile (fun y => decide (y.f ≤ x.f)), x.f < y.f
  | [], _, y, h => by simp at h
  | a :: r, hs, y, h => by
    rw [List.dropWhile_cons] at h
    split at h
    · exact drop_gt (List.pairwise_cons.1 hs).2 y h
    · rename_i hc
      have ha : x.f < a.f := by simpa using hc
      rcases List.mem_cons.1 h with rfl | h2
      · exact ha
      · have h4 : a.f ≤ y.f := (List.pairwise_cons.1 hs).1 y h2
        omega
theorem take_le {x : Sp} {l : List Sp} : ∀ y ∈ l.takeWhile (fun y => decide (y.f ≤ x.f)), y.f ≤ x.f := fun y hy => by
  have := List.all_takeWhile (p := fun y : Sp => decide (y.f ≤ x.f)) (l := l)
  have := List.all_eq_true.1 this y hy
  simpa using this
theorem insS_sorted {x : Sp} {l : List Sp} (hs : SortL (fun y : Sp => y.f) l) : SortL (fun y : Sp => y.f) (insS x l) := by
  unfold insS SortL
  have hs' : (l.takeWhile (fun y => decide (y.f ≤ x.f)) ++ l.dropWhile (fun y => decide (y.f ≤ x.f))).Pairwise (fun y z : Sp => y.f ≤ z.f) := by rw [List.takeWhile_append_dropWhile]; exact hs
  obtain ⟨h1, h2, h3⟩ := List.pairwise_append.1 hs'
  refine List.pairwise_append.2 ⟨h1, List.pairwise_cons.2 ⟨fun z hz => Int.le_of_lt (drop_gt hs z hz), h2⟩, fun a ha b hb => ?_⟩
  rcases List.mem_cons.1 hb with rfl | hb
  · exact take_le a ha
  · exact h3 a ha b hb
theorem insS_same {x : Sp} {l : List Sp} (hs : SortL (fun y : Sp => y.f) l) : SameL (fun y : Sp => y.f) (l ++ [x]) (insS x l) := fun k => by
  have e : l = l.takeWhile (fun y => decide (y.f ≤ x.f)) ++ l.dropWhile (fun y => decide (y.f ≤ x.f)) := (List.takeWhile_append_dropWhile).symm
  have hg := @drop_gt x l hs
  unfold insS
  conv => rhs; rw [e]
  generalize l.takeWhile (fun y => decide (y.f ≤ x.f)) = A at *
  generalize l.dropWhile (fun y => decide (y.f ≤ x.f)) = B at *
  rw [List.filter_append, List.filter_append, List.filter_append, List.append_assoc]
  congr 1
  by_cases c : x.f = k
  · have hB : B.filter (fun y => decide (y.f = k)) = [] := List.filter_eq_nil_iff.2 fun y hy h => by have := hg y hy; have := of_decide_eq_true h; omega
    rw [List.filter_cons_of_pos (by simpa using c), hB, List.filter_cons_of_pos (by simpa using c)]
    rfl
  · rw [List.filter_cons_of_neg (by simpa using c), List.filter_cons_of_neg (by simpa using c)]
    simp
theorem sortA_both : ∀ (l acc : List Sp), SortL (fun y : Sp => y.f) acc → SortL (fun y : Sp => y.f) (sortA acc l) ∧ SameL (fun y : Sp => y.f) (acc ++ l) (sortA acc l)
  | [], acc, h => ⟨h, by rw [List.append_nil]; exact SameL.refl _ _⟩
  | x :: r, acc, h => by
    obtain ⟨h1, h2⟩ := sortA_both r (insS x acc) (insS_sorted h)
    refine ⟨h1, fun k => ?_⟩
    rw [sortA, h2 k, List.filter_append, insS_same h k, List.filter_append, List.filter_append, List.append_assoc, ← List.filter_append]
    rfl
theorem sortS_sorted (l : List Sp) : SortL (fun y : Sp => y.f) (sortS l) := (sortA_both l [] List.Pairwise.nil).1
theorem sortS_same (l : List Sp) : SameL (fun y : Sp => y.f) l (sortS l) := (sortA_both l [] List.Pairwise.nil).2
theorem sortS_unique {l l' : List Sp} (h1 : SortL (fun y : Sp => y.f) l') (h2 : SameL (fun y : Sp => y.f) l l') : l' = sortS l :=
  sorted_same (fun y : Sp => y.f) (sortS l) l' (sortS_sorted l) h1 (fun k => (h2 k).trans (sortS_same l k).symm)
theorem sortS_idem (l : List Sp) : sortS (sortS l) = sortS l := (sortS_unique (sortS_sorted l) (SameL.refl _ _)).symm

/-- How two spans compare. -/
def cfS (x y : Sp) : Int := if x.f < y.f then -1 else if y.f < x.f then 1 else 0
theorem cfS_lt (x y : Sp) : cfS x y < 0 ↔ x.f < y.f := by
  unfold cfS
  split
  · simp [*]
  · split <;> simp [*]
theorem nan_c (x : Int) (w : World) : Calls Tryd.prog 47 #[.int .i64 x] w fun e w' => e = .returned (.bool false) ∧ w' = w := by
  have h : (x != x) = false := by simp
  go_enter Tryd.func47, Tryd.ntmps47
  go_wp2
  go_ret
  exact ⟨rfl, rfl⟩
theorem compare_c (x y : Int) (w : World) : Calls Tryd.prog 45 #[.int .i64 x, .int .i64 y] w fun e w' => e = .returned (.int .i64 (if x < y then -1 else if y < x then 1 else 0)) ∧ w' = w := by
  by_cases h1 : x < y
  · rw [if_pos h1]
    go_enter Tryd.func45, Tryd.ntmps45
    go_wp2_with (go_at_call 47; (with_reducible refine (nan_c _ _).mono ?_); rintro _ _ ⟨rfl, rfl⟩)
    go_ret
    exact ⟨rfl, rfl⟩
  · rw [if_neg h1]
    by_cases h2 : y < x
    · rw [if_pos h2]
      go_enter Tryd.func45, Tryd.ntmps45
      go_wp2_with (go_at_call 47; (with_reducible refine (nan_c _ _).mono ?_); rintro _ _ ⟨rfl, rfl⟩)
      go_ret
      exact ⟨rfl, rfl⟩
    · rw [if_neg h2]
      go_enter Tryd.func45, Tryd.ntmps45
      go_wp2_with (go_at_call 47; (with_reducible refine (nan_c _ _).mono ?_); rintro _ _ ⟨rfl, rfl⟩)
      go_ret
      exact ⟨rfl, rfl⟩
theorem cmp_c (x y : Sp) (w : World) : Calls Tryd.prog 44 (#[.agg (x.cells).toArray, .agg (y.cells).toArray] ++ #[]) w fun e w' => e = .returned (.int .i64 (cfS x y)) ∧ ∃ q os', w' = grow (w.drewN q) os' := by
  obtain ⟨x1, x2, x3⟩ := x
  obtain ⟨y1, y2, y3⟩ := y
  have HC := Lib.hid (fun W => compare_c x1 y1 W)
  have e : cfS ⟨x1, x2, x3⟩ ⟨y1, y2, y3⟩ = (if x1 < y1 then -1 else if y1 < x1 then 1 else 0) := rfl
  rw [e]
  generalize (if x1 < y1 then (-1 : Int) else if y1 < x1 then 1 else 0) = C at *
  show Calls Tryd.prog _ #[.agg #[.int .i64 x1, .int .i64 x2, .int .u8 x3], .agg #[.int .i64 y1, .int .i64 y2, .int .u8 y3]] w _
  clear e
  go_enter Tryd.func44, Tryd.ntmps44
  go_wp2_with (go_at_call 45; (with_reducible refine (HC.out _).mono ?_); rintro _ _ ⟨rfl, rfl⟩)
  go_ret
  refine ⟨rfl, 0, #[.cells #[.int .i64 x1, .int .i64 x2, .int .u8 x3] 64, .cells #[.int .i64 y1, .int .i64 y2, .int .u8 y3] 64], ?_⟩
  rw [show w.drewN 0 = w from rfl, alloc_eq_grow, alloc_eq_grow, grow_grow]
  rfl
/-- What a world of the sort's has kept. -/
theorem swk_below {enc : Sp → List Value} {k : Nat} {w0 w : World} {blk off : Nat} {d : Array Sp} (S : SWK enc k w0 blk off d w) (hblk : blk < w0.heap.size) : Below blk w0 w := by
  obtain ⟨n, os, rfl⟩ := S
  refine ⟨rfl, rfl, rfl, ?_, fun b hb => ?_⟩
  · unfold sortWorldK; rw [size_grow, size_putRowK]; exact Nat.le_add_right _ _
  · unfold sortWorldK
    rw [heap_grow_old _ _ (by rw [size_putRowK]; exact Nat.lt_trans hb hblk)]
    unfold putRowK putRow mapBlock
    simp only [Array.getElem?_modify]
    rw [if_neg (by omega)]
    rfl
/-- A row of a call's own, as the sort takes it, and as it leaves it. -/
theorem flat_get (l : List Sp) (t : Nat) (h : t < l.length * 3) : (l.flatMap Sp.cells)[t]? = some ((Sp.cells l.toArray[t / 3]!)[t % 3]!) := by
  have h1 : t / 3 < l.length := by omega
  have h2 : l[t / 3]? = some l[t / 3] := List.getElem?_eq_getElem h1
  have h3 : (Sp.cells l[t / 3])[t % 3]? = some ((Sp.cells l[t / 3])[t % 3]'(by rw [sp_len]; omega)) := List.getElem?_eq_getElem _
  have := flat_at sp_len l (t / 3) _ (t % 3) _ h2 h3
  rw [show t / 3 * 3 + t % 3 = t from by omega] at this
  rw [this]
  congr 1
  rw [getElem!_pos l.toArray (t / 3) (by simpa using h1), getElem!_pos _ (t % 3) (by rw [sp_len]; omega)]
  congr 1
theorem holdsK_own {w : World} {B g cap : Nat} {T : TypeId} {l : List Sp} (h : w.ownsRow B T 3 (.slice (some ⟨g, 0, none⟩) l.length cap) l.length (l.flatMap Sp.cells)) : HoldsK Sp.cells 3 w g 0 l.toArray ∧ g < w.heap.size := by
  rcases h.2 with ⟨h1, _⟩ | ⟨g', cap', cur, h1, h2, h3, h4, h5, h6, h7⟩
  · cases h1
  · cases h1
    refine ⟨fun j hj => ?_, (Array.getElem?_eq_some_iff.1 h3).1⟩
    rw [size_flatK] at hj
    have hj' : j < l.length * 3 := by simpa using hj
    refine ⟨?_, by simp [World.frozen?, h3]⟩
    rw [get_flatK _ _ _ _ (by simpa using hj')]
    have e := flat_get l j hj'
    rw [← h7, List.getElem?_take_of_lt hj'] at e
    simp only [World.cell?, h3, Nat.zero_add]
    simpa using e
theorem holdsE_K {w : World} {g cap : Nat} {d : Array Sp} (h : HoldsK Sp.cells 3 w g 0 d) (hc : d.size ≤ cap) : HoldsS w (.slice (some ⟨g, 0, none⟩) d.toList.length cap) d.toList := by
  refine .inr ⟨g, 0, cap, rfl, by simpa using hc, fun j x hx i u hu => ?_⟩
  have hj : j < d.size := by have := (List.getElem?_eq_some_iff.1 hx).1; simpa using this
  have hi : i < 3 := by have := (List.getElem?_eq_some_iff.1 hu).1; rw [sp_len] at this; exact this
  have := (h (j * 3 + i) (by rw [size_flatK]; omega)).1
  rw [get_flatK _ _ _ _ (by omega), show (j * 3 + i) / 3 = j from by omega, show (j * 3 + i) % 3 = i from by omega] at this
  rw [show 0 + j * 3 + i = 0 + (j * 3 + i) from by omega, this]
  have e1 : d[j]! = x := by rw [bang_get d j hj] at hx; exact Option.some.inj hx
  rw [e1]
  show some ((Sp.cells x)[i]!) = some u
  rw [getElem!_pos _ i (by rw [sp_len]; exact hi)]
  rw [List.getElem?_eq_getElem (by rw [sp_len]; exact hi)] at hu
  exact hu
end Go.Proofs.YtcilnbkmaoneaaaDoor
