/- Layer 7: spans by rising -/
import Derived.Test.YtjcmblbnbpikfaaGreatDoorSortAll
import Derived.Test.YtjcmblbnbpikfaaGreatDoorLines
set_option linter.unusedSimpArgs false
set_option linter.unusedVariables false
set_option maxRecDepth 100000
namespace Go.Proofs.YtjcmblbnbpikfaaGreatDoor
open Lib (hid)
open Go.Shelf Go.RowKit Go.Lib Go.Sort Go.PlainAid

def insS (x : Sp) (l : List Sp) : List Sp := l.takeWhile (fun y => decide (y.f ≤ x.f)) ++ x :: l.dropWhile (fun y => decide (y.f ≤ x.f))
def sortA (acc : List Sp) : List Sp → List Sp
 | [] => acc
 | x :: r => sortA (insS x acc) r
def sortS (l : List Sp) : List Sp := sortA [] l
theorem insS_len (x : Sp) (l : List Sp) : (insS x l).length = l.length + 1 := by
 unfold insS
 have : (l.takeWhile (fun y => decide (y.f ≤ x.f)) ++ l.dropWhile (fun y => decide (y.f ≤ x.f))).length = l.length := by rw [List.takeWhile_append_dropWhile]
 rw [List.length_append] at this ⊢
 rw [List.length_cons]; omega
theorem sortA_len : ∀ (l acc : List Sp), (sortA acc l).length = acc.length + l.length
 | [], acc => rfl
 | x :: r, acc => by rw [sortA, sortA_len r, insS_len, List.length_cons]; omega
theorem sortS_len (l : List Sp) : (sortS l).length = l.length := by unfold sortS; rw [sortA_len]; simp
theorem drop_gt {x : Sp} : ∀ {l : List Sp}, SortL (fun y : Sp => y.f) l → ∀ y ∈ l.dropWhile (fun y => decide (y.f ≤ x.f)), x.f < y.f
 | [], _, y, h => by simp at h
 | a :: r, hs, y, h => by
  rw [List.dropWhile_cons] at h
  split at h
  ·exact drop_gt (List.pairwise_cons.1 hs).2 y h
  ·rename_i hc
   have ha : x.f < a.f := by simpa using hc
   rcases List.mem_cons.1 h with rfl | h2
   ·exact ha
   ·have h4 : a.f ≤ y.f := (List.pairwise_cons.1 hs).1 y h2
    omega
theorem take_le {x : Sp} {l : List Sp} : ∀ y ∈ l.takeWhile (fun y => decide (y.f ≤ x.f)), y.f ≤ x.f := fun y hy => by
 have := List.all_takeWhile (p := fun y : Sp => decide (y.f ≤ x.f)) (l := l)
 have := List.all_eq_true.1 this y hy
 simpa using this
theorem insS_sorted {x : Sp} {l : List Sp} (hs : SortL (fun y : Sp => y.f) l) : SortL (fun y : Sp => y.f) (insS x l) := by
 unfold insS SortL
 have hs' : (l.takeWhile (fun y => decide (y.f ≤ x.f)) ++ l.dropWhile (fun y => decide (y.f ≤ x.f))).Pairwise (fun y z : Sp => y.f ≤ z.f) := by rw [List.takeWhile_append_dropWhile]; exact hs
 obtain ⟨h1, h2, h3⟩ := List.pairwise_append.1 hs'
 refine List.pairwise_append.2 ⟨h1, List.pairwise_cons.2 ⟨fun z hz => Int.le_of_lt (drop_gt hs z hz), h2⟩, fun a ha b hb => ?_⟩
 rcases List.mem_cons.1 hb with rfl | hb
 ·exact take_le a ha
 ·exact h3 a ha b hb
theorem insS_same {x : Sp} {l : List Sp} (hs : SortL (fun y : Sp => y.f) l) : SameL (fun y : Sp => y.f) (l ++ [x]) (insS x l) := fun k => by
 have e : l = l.takeWhile (fun y => decide (y.f ≤ x.f)) ++ l.dropWhile (fun y => decide (y.f ≤ x.f)) := (List.takeWhile_append_dropWhile).symm
 have hg := @drop_gt x l hs
 unfold insS
 conv => rhs; rw [e]
 generalize l.takeWhile (fun y => decide (y.f ≤ x.f)) = A at *
 generalize l.dropWhile (fun y => decide (y.f ≤ x.f)) = B at *
 rw [List.filter_append, List.filter_append, List.filter_append, List.append_assoc]
 congr 1
 by_cases c : x.f = k
 ·have hB : B.filter (fun y => decide (y.f = k)) = [] := List.filter_eq_nil_iff.2 fun y hy h => by have := hg y hy; have := of_decide_eq_true h; omega
  rw [List.filter_cons_of_pos (by simpa using c), hB, List.filter_cons_of_pos (by simpa using c)]
  rfl
 ·rw [List.filter_cons_of_neg (by simpa using c), List.filter_cons_of_neg (by simpa using c)]
  simp
theorem sortA_both : ∀ (l acc : List Sp), SortL (fun y : Sp => y.f) acc → SortL (fun y : Sp => y.f) (sortA acc l) ∧ SameL (fun y : Sp => y.f) (acc ++ l) (sortA acc l)
 | [], acc, h => ⟨h, by rw [List.append_nil]; exact SameL.refl _ _⟩
 | x :: r, acc, h => by
  obtain ⟨h1, h2⟩ := sortA_both r (insS x acc) (insS_sorted h)
  refine ⟨h1, fun k => ?_⟩
  rw [sortA, h2 k, List.filter_append, insS_same h k, List.filter_append, List.filter_append, List.append_assoc, ← List.filter_append]
  rfl
theorem sortS_sorted (l : List Sp) : SortL (fun y : Sp => y.f) (sortS l) := (sortA_both l [] List.Pairwise.nil).1
theorem sortS_same (l : List Sp) : SameL (fun y : Sp => y.f) l (sortS l) := (sortA_both l [] List.Pairwise.nil).2
theorem sortS_unique {l l' : List Sp} (h1 : SortL (fun y : Sp => y.f) l') (h2 : SameL (fun y : Sp => y.f) l l') : l' = sortS l :=
 sorted_same (fun y : Sp => y.f) (sortS l) l' (sortS_sorted l) h1 (fun k => (h2 k).trans (sortS_same l k).symm)
theorem sortS_idem (l : List Sp) : sortS (sortS l) = sortS l := (sortS_unique (sortS_sorted l) (SameL.refl _ _)).symm

def cfS (x y : Sp) : Int := if x.f < y.f then -1 else if y.f < x.f then 1 else 0
theorem cfS_lt (x y : Sp) : cfS x y < 0 ↔ x.f < y.f := by
 unfold cfS
 split
 ·simp [*]
 ·split <;> simp [*]
theorem nan_c (x : Int) (w : World) : Calls Tryz.prog 67 #[.int .i64 x] w fun e w' => e = .returned (.bool false) ∧ w' = w := by
 have h : (x != x) = false := by simp
 go_enter Tryz.func67, Tryz.ntmps67
 go_wp2
 go_ret
 exact ⟨rfl, rfl⟩
theorem compare_c (x y : Int) (w : World) : Calls Tryz.prog 52 #[.int .i64 x, .int .i64 y] w fun e w' => e = .returned (.int .i64 (if x < y then -1 else if y < x then 1 else 0)) ∧ w' = w := by
 by_cases h1 : x < y
 ·rw [if_pos h1]
  go_enter Tryz.func52, Tryz.ntmps52
  go_wp2_with (go_at_call 67; (with_reducible refine (nan_c _ _).mono ?_); rintro _ _ ⟨rfl, rfl⟩)
  go_ret
  exact ⟨rfl, rfl⟩
 ·rw [if_neg h1]
  by_cases h2 : y < x
  ·rw [if_pos h2]
   go_enter Tryz.func52, Tryz.ntmps52
   go_wp2_with (go_at_call 67; (with_reducible refine (nan_c _ _).mono ?_); rintro _ _ ⟨rfl, rfl⟩)
   go_ret
   exact ⟨rfl, rfl⟩
  ·rw [if_neg h2]
   go_enter Tryz.func52, Tryz.ntmps52
   go_wp2_with (go_at_call 67; (with_reducible refine (nan_c _ _).mono ?_); rintro _ _ ⟨rfl, rfl⟩)
   go_ret
   exact ⟨rfl, rfl⟩
theorem cmp_c (x y : Sp) (w : World) : Calls Tryz.prog 51 (#[.agg (x.cells).toArray, .agg (y.cells).toArray] ++ #[]) w fun e w' => e = .returned (.int .i64 (cfS x y)) ∧ ∃ q os', w' = grow (w.drewN q) os' := by
 obtain ⟨x1, x2, x3⟩ := x
 obtain ⟨y1, y2, y3⟩ := y
 have HC := hid (fun W => compare_c x1 y1 W)
 have e : cfS ⟨x1, x2, x3⟩ ⟨y1, y2, y3⟩ = (if x1 < y1 then -1 else if y1 < x1 then 1 else 0) := rfl
 rw [e]
 generalize (if x1 < y1 then (-1 : Int) else if y1 < x1 then 1 else 0) = C at *
 show Calls Tryz.prog _ #[.agg #[.int .i64 x1, .int .i64 x2, .int .u8 x3], .agg #[.int .i64 y1, .int .i64 y2, .int .u8 y3]] w _
 clear e
 go_enter Tryz.func51, Tryz.ntmps51
 go_wp2_with (go_at_call 52; (with_reducible refine (HC.out _).mono ?_); rintro _ _ ⟨rfl, rfl⟩)
 go_ret
 refine ⟨rfl, 0, #[.cells #[.int .i64 x1, .int .i64 x2, .int .u8 x3] 58, .cells #[.int .i64 y1, .int .i64 y2, .int .u8 y3] 58], ?_⟩
 rw [show w.drewN 0 = w from rfl, alloc_eq_grow, alloc_eq_grow, grow_grow]
 rfl
theorem swk_below {enc : Sp → List Value} {k : Nat} {w0 w : World} {blk off : Nat} {d : Array Sp} (S : SWK enc k w0 blk off d w) (hblk : blk < w0.heap.size) : Below blk w0 w := by
 obtain ⟨n, os, rfl⟩ := S
 refine ⟨rfl, rfl, rfl, ?_, fun b hb => ?_⟩
 ·unfold sortWorldK; rw [size_grow, size_putRowK]; exact Nat.le_add_right _ _
 ·unfold sortWorldK
  rw [heap_grow_old _ _ (by rw [size_putRowK]; exact Nat.lt_trans hb hblk)]
  unfold putRowK putRow mapBlock
  simp only [Array.getElem?_modify]
  rw [if_neg (by omega)]
  rfl
theorem flat_get (l : List Sp) (t : Nat) (h : t < l.length * 3) : (l.flatMap Sp.cells)[t]? = some ((Sp.cells l.toArray[t / 3]!)[t % 3]!) := by
 have h1 : t / 3 < l.length := by omega
 have h2 : l[t / 3]? = some l[t / 3] := List.getElem?_eq_getElem h1
 have h3 : (Sp.cells l[t / 3])[t % 3]? = some ((Sp.cells l[t / 3])[t % 3]'(by rw [sp_len]; omega)) := List.getElem?_eq_getElem _
 have := flat_at sp_len l (t / 3) _ (t % 3) _ h2 h3
 rw [show t / 3 * 3 + t % 3 = t from by omega] at this
 rw [this]
 congr 1
 rw [getElem!_pos l.toArray (t / 3) (by simpa using h1), getElem!_pos _ (t % 3) (by rw [sp_len]; omega)]
 congr 1
theorem holdsK_own {w : World} {B g cap : Nat} {T : TypeId} {l : List Sp} (h : w.ownsRow B T 3 (.slice (some ⟨g, 0, none⟩) l.length cap) l.length (l.flatMap Sp.cells)) : HoldsK Sp.cells 3 w g 0 l.toArray ∧ g < w.heap.size := by
 rcases h.2 with ⟨h1, _⟩ | ⟨g', cap', cur, h1, h2, h3, h4, h5, h6, h7⟩
 ·cases h1
 ·cases h1
  refine ⟨fun j hj => ?_, (Array.getElem?_eq_some_iff.1 h3).1⟩
  rw [size_flatK] at hj
  have hj' : j < l.length * 3 := by simpa using hj
  refine ⟨?_, by simp [World.frozen?, h3]⟩
  rw [get_flatK _ _ _ _ (by simpa using hj')]
  have e := flat_get l j hj'
  rw [← h7, List.getElem?_take_of_lt hj'] at e
  simp only [World.cell?, h3, Nat.zero_add]
  simpa using e
theorem holdsE_K {w : World} {g cap : Nat} {d : Array Sp} (h : HoldsK Sp.cells 3 w g 0 d) (hc : d.size ≤ cap) : HoldsS w (.slice (some ⟨g, 0, none⟩) d.toList.length cap) d.toList := by
 refine .inr ⟨g, 0, cap, rfl, by simpa using hc, fun j x hx i u hu => ?_⟩
 have hj : j < d.size := by have := (List.getElem?_eq_some_iff.1 hx).1; simpa using this
 have hi : i < 3 := by have := (List.getElem?_eq_some_iff.1 hu).1; rw [sp_len] at this; exact this
 have := (h (j * 3 + i) (by rw [size_flatK]; omega)).1
 rw [get_flatK _ _ _ _ (by omega), show (j * 3 + i) / 3 = j from by omega, show (j * 3 + i) % 3 = i from by omega] at this
 rw [show 0 + j * 3 + i = 0 + (j * 3 + i) from by omega, this]
 have e1 : d[j]! = x := by rw [bang_get d j hj] at hx; exact Option.some.inj hx
 rw [e1]
 show some ((Sp.cells x)[i]!) = some u
 rw [getElem!_pos _ i (by rw [sp_len]; exact hi)]
 rw [List.getElem?_eq_getElem (by rw [sp_len]; exact hi)] at hu
 exact hu
end Go.Proofs.YtjcmblbnbpikfaaGreatDoor
namespace Go.Proofs.YtjcmblbnbpikfaaGreatDoor
open Go.Shelf Go.RowKit Go.Lib Go.Sort Go.PlainAid

theorem holdsE_set {α : Type} {enc : α → List Value} {k : Nat} {w : World} {v : Value} {l : List α} {B : Nat} (h : HoldsE enc k w v l) (hB : ∀ g, v.ownBlock = some g → B ≤ g) {p : Addr} (hp : p.block < B) (u : Value) : HoldsE enc k (w.setCell p u) v l := by
 rcases h with h | ⟨g, o, cap, e, hc, h⟩
 ·exact .inl h
 ·refine .inr ⟨g, o, cap, e, hc, fun j x hx i y hy => ?_⟩
  have hg := hB g (by rw [e]; rfl)
  rw [World.cell?_setCell_other _ _ _ _ (by intro e2; subst e2; dsimp only at hp; omega)]
  exact h j x hx i y hy
theorem Tryz.infoS : (Tryz.prog.info? 58).map (fun i => (i.zero, i.size, i.bytes)) = some (some (.agg #[.int .i64 0, .int .i64 0, .int .u8 0]), 3, 24) := by kernel_rfl
theorem nil_eq (W : World) : (binOp .eql 22 (.slice none 0 0) (.slice none 0 0)).run Tryz.prog W = .ok (.bool true) W := by kernel_rfl
theorem some_eq (a : Addr) (n c : Nat) (W : World) : (binOp .eql 22 (.slice (some a) n c) (.slice none 0 0)).run Tryz.prog W = .ok (.bool false) W := by kernel_rfl
theorem clone_nil (w : World) : Calls Tryz.prog 49 #[.slice none 0 0] w fun e w' => e = .returned (.slice none 0 0) ∧ w' = w := by
 have hq := nil_eq
 go_enter Tryz.func49, Tryz.ntmps49
 go_wp2
 go_ret
 exact ⟨rfl, rfl⟩
theorem clone_some (g o n cap : Nat) (l : List Sp) (hn : l.length = n) (hl : l.length ≤ 100000) (hcap : n ≤ cap) (w : World) (hc : ∀ j (x : Sp), l[j]? = some x → ∀ i u, x.cells[i]? = some u → w.cell? ⟨g, o + j * 3 + i, none⟩ = some u) :
  Calls Tryz.prog 49 #[.slice (some ⟨g, o, none⟩) n cap] w fun e w' => ∃ g' cap', e = .returned (.slice (some ⟨g', 0, none⟩) n cap') ∧ w.heap.size ≤ g' ∧ n ≤ cap' ∧ w'.ownsRow w.heap.size 58 3 (.slice (some ⟨g', 0, none⟩) n cap') n (l.flatMap Sp.cells) ∧ Below w.heap.size w w' := by
 have HC := hid hc
 have HN := hid (And.intro hn hl)
 clear hc hn hl
 have hq := some_eq ⟨g, o, none⟩ n cap
 obtain ⟨i0, hi, hz0, hz1, hz2⟩ := info_parts Tryz.infoS
 go_enter Tryz.func49, Tryz.ntmps49
 go_wp2_with (at_builtin; refine wpList_append_own _ rfl _ _ 22 rfl w.heap.size 58 i0 _ 3 24 Tryz.underlying22 hi hz0 hz1 hz2 rfl (by decide) _ 0 [] rfl ?c0 ⟨g, o, none⟩ n cap (l.flatMap Sp.cells) rfl ?c1 ?c2 ?c3 ?c4 ?c5 ?c6 ?_)
 case c0 => exact ⟨rfl, .inr ⟨w.heap.size, 0, #[], rfl, Nat.le_refl _, heap_alloc_new _ _, Nat.le_refl _, by decide, rfl, rfl⟩⟩
 case c1 => rw [flat_len sp_len, HN.out.1]
 case c2 =>
  intro j u hu
  have hj := (List.getElem?_eq_some_iff.1 hu).1
  rw [flat_len sp_len] at hj
  have e := flat_get l j hj
  rw [e] at hu
  have h3 : j / 3 < l.length := by omega
  have := HC.out (j / 3) l[j / 3] (List.getElem?_eq_getElem h3) (j % 3) u (by
   rw [getElem!_pos l.toArray (j / 3) (by simpa using h3)] at hu
   rw [getElem!_pos _ (j % 3) (by rw [sp_len]; omega)] at hu
   rw [List.getElem?_eq_getElem (by rw [sp_len]; omega)]
   simpa using hu)
  rw [Addr.add_lit, show o + j = o + j / 3 * 3 + j % 3 from by omega]
  exact kc ((Below.refl _ w).alloc (Nat.le_refl _) _) this
 case c3 => exact one_cells sp_one _
 case c4 => have := HN.out; unfold maxLen; omega
 case c5 => have := HN.out; omega
 case c6 => simp
 intro v' w' hown' hg hnn
 have hBw : Below w.heap.size w w' := Below.grown ((Below.refl _ w).alloc (Nat.le_refl _) _) hg (by simp) (fun k hk => by cases hk; exact Nat.le_refl _)
 have HO := hid hown'
 have HX := hid hnn
 clear hown' hg hnn
 go_wp2
 go_ret
 rcases HO.out.2 with ⟨h1, h2⟩ | ⟨g', cap', cur, h1, h2, h3, h4, r⟩
 ·exact absurd h1 HX.out
 ·subst h1
  exact ⟨g', cap', rfl, h2, h4, HO.out, hBw⟩
theorem enters_cmp (args : Array Value) (w : World) : (callFunc 51 args).run Tryz.prog w = .ok (.enter 51 args) w := (enters_of Tryz.func51 (by kernel_rfl) rfl) args w
theorem stable_nil (w : World) : Calls Tryz.prog 66 #[.slice none 0 0, .int .i64 0, .func (.func 51) #[] #[]] w fun e w' => e = .returned (.tuple #[]) ∧ w' = w := by
 have HI : ∀ W, Calls Tryz.prog 81 #[.slice none 0 0, .int .i64 0, .int .i64 0, .func (.func 51) #[] #[]] W fun e w' => e = .returned (.tuple #[]) ∧ w' = W := fun W => by
  go_enter Tryz.func81, Tryz.ntmps81
  go_wp2
  refine wp_loop_rounds 1 ?_
  rw [rounds_succ]
  go_wp2
  go_end0
  exact ⟨rfl, rfl⟩
 have H := hid HI
 clear HI
 go_enter Tryz.func66, Tryz.ntmps66
 go_wp2
 refine wp_loop_rounds 1 ?_
 rw [rounds_succ]
 go_wp2_with fail
 (with_reducible refine (H.out _).mono ?_)
 rintro _ _ ⟨rfl, rfl⟩
 go_wp2
 refine wp_loop_rounds 1 ?_
 rw [rounds_succ]
 go_wp2
 go_end0
 exact ⟨rfl, rfl⟩
theorem sortf_nil (w : World) : Calls Tryz.prog 50 #[.slice none 0 0, .func (.func 51) #[] #[]] w fun e w' => e = .returned (.tuple #[]) ∧ w' = w := by
 have H := hid stable_nil
 go_enter Tryz.func50, Tryz.ntmps50
 go_wp2_with fail
 (with_reducible refine (H.out _).mono ?_)
 rintro _ _ ⟨rfl, rfl⟩
 go_wp2
 go_end0
 exact ⟨rfl, rfl⟩
theorem stable_c (g cap n : Nat) (d0 : Array Sp) (hn : d0.size = n) (hz : n ≤ 100000) (w : World) (hH : HoldsK Sp.cells 3 w g 0 d0) (hg : g < w.heap.size) :
  Calls Tryz.prog 66 #[.slice (some ⟨g, 0, none⟩) n cap, .int .i64 n, .func (.func 51) #[] #[]] w fun e w' => e = .returned (.tuple #[]) ∧ HoldsK Sp.cells 3 w' g 0 (sortS d0.toList).toArray ∧ Below g w w' := by
 subst hn
 have R : RowK Sp.cells 3 w g 0 d0 := ⟨sp_len, sp_one, hH, hg⟩
 refine (stable_k 3 span_agg span_size Sp.cells (fun x => x.f) cfS cfS_lt 51 #[] g 0 cap d0 w enters_cmp (fun m os dk hd x y => cmp_c x y _) R (by omega)).mono ?_
 rintro e w' ⟨he, d', ⟨hm, hs⟩, S⟩
 have hu : d'.toList = sortS d0.toList := sortS_unique (sortL_of (by rw [hm.size]; exact hs)) hm.same
 refine ⟨he, ?_, swk_below S hg⟩
 rw [← hu, Array.toArray_toList]
 exact S.holds hg hH hm.size
theorem sortf_c (g cap n : Nat) (d0 : Array Sp) (hn : d0.size = n) (hz : n ≤ 100000) (w : World) (hH : HoldsK Sp.cells 3 w g 0 d0) (hg : g < w.heap.size) :
  Calls Tryz.prog 50 #[.slice (some ⟨g, 0, none⟩) n cap, .func (.func 51) #[] #[]] w fun e w' => e = .returned (.tuple #[]) ∧ HoldsK Sp.cells 3 w' g 0 (sortS d0.toList).toArray ∧ Below g w w' := by
 have H := hid (stable_c g cap n d0 hn hz w hH hg)
 clear hH hg hn
 go_enter Tryz.func50, Tryz.ntmps50
 go_wp2_with fail
 (with_reducible refine (H.out).mono ?_)
 rintro _ u ⟨rfl, h1, h2⟩
 have HH := hid (And.intro h1 h2)
 clear h1 h2
 go_wp2
 go_end0
 exact ⟨rfl, HH.out⟩
def AnsS (w : World) (l : List Sp) : Ending → World → Prop := fun e w' => ∃ v, e = .returned v ∧ HoldsS w' v l ∧ (∀ g, v.ownBlock = some g → w.heap.size ≤ g) ∧ Below w.heap.size w w'
theorem sortedSpans_c (l : List Sp) (hl : l.length ≤ 100000) (v : Value) (w : World) (hv : HoldsS w v l) : Calls Tryz.prog 31 #[v] w (AnsS w (sortS l)) := by
 rcases hv with ⟨rfl, rfl⟩ | ⟨g, o, cap, rfl, hcap, hc⟩
 ·have H1 := hid clone_nil
  have H2 := hid sortf_nil
  go_enter Tryz.func31, Tryz.ntmps31
  go_wp2_with fail
  (with_reducible refine (H1.out _).mono ?_)
  rintro _ _ ⟨rfl, rfl⟩
  go_wp2_with fail
  (with_reducible refine (H2.out _).mono ?_)
  rintro _ _ ⟨rfl, rfl⟩
  go_wp2
  go_ret
  exact ⟨_, rfl, HoldsE.nil _, (fun g h => by cases h), Below.refl _ _⟩
 ·have H1 := hid (clone_some g o l.length cap l rfl hl hcap w hc)
  obtain ⟨n, hn⟩ : ∃ n, l.length = n := ⟨_, rfl⟩
  rw [hn] at H1 hcap ⊢
  have HN := hid (And.intro hn hl)
  clear hc hn hl
  go_enter Tryz.func31, Tryz.ntmps31
  go_wp2_with fail
  (with_reducible refine (H1.out).mono ?_)
  rintro _ u ⟨g', cap', rfl, hg', hc', hown, hB⟩
  have h2 := holdsK_own (l := l) (cap := cap') (g := g') (by rw [HN.out.1]; exact hown)
  have HS := hid (sortf_c g' cap' n l.toArray (by simpa using HN.out.1) (by have := HN.out; omega) u h2.1 h2.2)
  clear hown h2
  go_wp2_with fail
  (with_reducible refine (HS.out).mono ?_)
  rintro _ x ⟨rfl, hK, hb⟩
  have hBx : Below w.heap.size w x := hB.trans (hb.mono hg')
  have HK := hid hK
  clear hK hb hB
  go_wp2
  go_ret
  have := holdsE_K HK.out (cap := cap') (by simp only [List.size_toArray]; rw [sortS_len]; have := HN.out.1; simpa [this] using hc')
  refine ⟨_, rfl, ?_, (fun g h => by cases h; exact hg'), hBx⟩
  simp only [List.toList_toArray] at this
  rw [sortS_len] at this
  simpa [HN.out.1] using this
end Go.Proofs.YtjcmblbnbpikfaaGreatDoor
namespace Go.Proofs.YtjcmblbnbpikfaaGreatDoor
open Go.Shelf Go.RowKit Go.Lib Go.Sort Go.PlainAid

structure Pol where
 s : List Sp
 k : List Sp
 d : Int
 t : Int
deriving DecidableEq
def HoldsP (w : World) (v : Value) (p : Pol) : Prop := ∃ v1 v2, v = .agg #[v1, v2, .int .i64 p.d, .int .i64 p.t] ∧ HoldsS w v1 p.s ∧ HoldsS w v2 p.k
theorem HoldsP.below {w u : World} {v : Value} {p : Pol} (h : HoldsP w v p) (hb : Below w.heap.size w u) : HoldsP u v p := by
 obtain ⟨v1, v2, rfl, h1, h2⟩ := h
 exact ⟨v1, v2, rfl, h1.below hb, h2.below hb⟩
def sortP (p : Pol) : Pol := ⟨sortS p.s, sortS p.k, p.d, p.t⟩
theorem sortP_idem (p : Pol) : sortP (sortP p) = sortP p := by simp [sortP, sortS_idem]
def AnsP (w : World) (p : Pol) : Ending → World → Prop := fun e w' => ∃ v1 v2, e = .returned (.agg #[v1, v2, .int .i64 p.d, .int .i64 p.t]) ∧ HoldsS w' v1 p.s ∧ HoldsS w' v2 p.k ∧ (∀ g, v1.ownBlock = some g → w.heap.size ≤ g) ∧ (∀ g, v2.ownBlock = some g → w.heap.size ≤ g) ∧ Below w.heap.size w w'
theorem sorted_c (p : Pol) (hl : p.s.length ≤ 100000 ∧ p.k.length ≤ 100000) (v : Value) (w : World) (hv : HoldsP w v p) : Calls Tryz.prog 16 #[v] w (AnsP w (sortP p)) := by
 obtain ⟨v1, v2, rfl, h1, h2⟩ := hv
 obtain ⟨ps, pk, pd, pt⟩ := p
 dsimp only at h1 h2 hl ⊢
 obtain ⟨a1, c1, rfl⟩ := h1.form
 obtain ⟨a2, c2, rfl⟩ := h2.form
 obtain ⟨n1, hn1⟩ : ∃ n, ps.length = n := ⟨_, rfl⟩
 obtain ⟨n2, hn2⟩ : ∃ n, pk.length = n := ⟨_, rfl⟩
 rw [hn1] at h1 ⊢
 rw [hn2] at h2 ⊢
 have HS1 := hid (fun W hb => sortedSpans_c ps hl.1 (.slice a1 n1 c1) W (h1.below hb))
 have HS2 := hid (fun W hb => sortedSpans_c pk hl.2 (.slice a2 n2 c2) W (h2.below hb))
 unfold AnsS at HS1 HS2
 clear h1 h2 hl hn1 hn2
 have e1 := sortS_len ps
 have e2 := sortS_len pk
 have HE := hid (And.intro e1 e2)
 clear e1 e2
 go_enter Tryz.func16, Tryz.ntmps16
 go_wp2_with fail
 ((with_reducible refine (HS1.out _ (((Below.refl _ w).alloc (Nat.le_refl _) _).alloc (by simp) _)).mono ?_); rintro _ u1 ⟨x1, rfl, hx1, hy1, hb⟩)
 have hs_u1 := hid hb
 have T : CF u1 w.heap.size 0 (.slice a1 n1 c1) ∧ CF u1 w.heap.size 1 (.slice a2 n2 c2) ∧ CF u1 w.heap.size 2 (.int .i64 pd) ∧ CF u1 w.heap.size 3 (.int .i64 pt) ∧ CF u1 (w.heap.size + 1) 0 (.slice none 0 0) ∧ CF u1 (w.heap.size + 1) 1 (.slice none 0 0) ∧ CF u1 (w.heap.size + 1) 2 (.int .i64 0) ∧ CF u1 (w.heap.size + 1) 3 (.int .i64 0) := by
   refine ⟨⟨?_, ?_⟩, ⟨?_, ?_⟩, ⟨?_, ?_⟩, ⟨?_, ?_⟩, ⟨?_, ?_⟩, ⟨?_, ?_⟩, ⟨?_, ?_⟩, ⟨?_, ?_⟩⟩ <;> first | (refine kc hb ?_ <;> (go_simp; first | done | rfl)) | (refine kfz hb ?_ ?_ <;> first | (go_size; done) | (go_simp; done))
 have hz := hb.size
 (try simp only [szA] at hz)
 have L : w.heap.size < u1.heap.size ∧ w.heap.size + 1 < u1.heap.size := by omega
 have hB' : Below w.heap.size w u1 := by
   refine kb ?_ hb
   go_grown
 clear hb hz
 obtain ⟨⟨hp_0, fp_0⟩, ⟨hp_1, fp_1⟩, ⟨hp_2, fp_2⟩, ⟨hp_3, fp_3⟩, ⟨hr_0, fr_0⟩, ⟨hr_1, fr_1⟩, ⟨hr_2, fr_2⟩, ⟨hr_3, fr_3⟩⟩ := T
 obtain ⟨hlp, hlr⟩ := L
 obtain ⟨hnp0, hnp1, hkp1, hnp2, hkp2⟩ := ap0 hlp
 obtain ⟨hnr0, hkr1⟩ := ap1 hlr
 have hB := hB'; clear hB'
 have hsz := hB.size
 obtain ⟨a3, c3, rfl⟩ := hx1.form
 have HX1 := hid (And.intro hx1 (fun g h => Nat.le_trans (show w.heap.size + 2 ≤ _ by simp) (hy1 g h)))
 clear hx1 hy1
 generalize (sortS ps).length = m1 at *
 have HZ1 := hid (show w.heap.size + 2 ≤ u1.heap.size by omega)
 go_wp2_with fail
 have hBq : Below w.heap.size w (u1.setCell ⟨w.heap.size, 0, none⟩ (.slice a3 m1 c3)) := hB.setCell (by dsimp only; omega) _
 ((with_reducible refine (HS2.out _ hBq).mono ?_); rintro _ u2 ⟨x2, rfl, hx2, hy2, hb⟩)
 have hs_u2 := hid hb
 have T : CF u2 w.heap.size 0 (.slice a3 m1 c3) ∧ CF u2 w.heap.size 1 (.slice a2 n2 c2) ∧ CF u2 w.heap.size 2 (.int .i64 pd) ∧ CF u2 w.heap.size 3 (.int .i64 pt) ∧ CF u2 (w.heap.size + 1) 0 (.slice none 0 0) ∧ CF u2 (w.heap.size + 1) 1 (.slice none 0 0) ∧ CF u2 (w.heap.size + 1) 2 (.int .i64 0) ∧ CF u2 (w.heap.size + 1) 3 (.int .i64 0) := by
   refine ⟨⟨?_, ?_⟩, ⟨?_, ?_⟩, ⟨?_, ?_⟩, ⟨?_, ?_⟩, ⟨?_, ?_⟩, ⟨?_, ?_⟩, ⟨?_, ?_⟩, ⟨?_, ?_⟩⟩ <;> first | (refine kc hb ?_ <;> (go_simp; first | done | rfl)) | (refine kfz hb ?_ ?_ <;> first | (go_size; done) | (go_simp; done))
 have hz := hb.size
 (try simp only [szA] at hz)
 have L : w.heap.size < u2.heap.size ∧ w.heap.size + 1 < u2.heap.size := by omega
 have hB' : Below w.heap.size w u2 := by
   refine kb ?_ hb
   go_grown
 clear hp_0 fp_0 hp_1 fp_1 hp_2 fp_2 hp_3 fp_3 hr_0 fr_0 hr_1 fr_1 hr_2 fr_2 hr_3 fr_3 hlp hlr hnp0 hnp1 hkp1 hnp2 hkp2 hnr0 hkr1 hB hsz
 clear hb hz
 obtain ⟨⟨hp_0, fp_0⟩, ⟨hp_1, fp_1⟩, ⟨hp_2, fp_2⟩, ⟨hp_3, fp_3⟩, ⟨hr_0, fr_0⟩, ⟨hr_1, fr_1⟩, ⟨hr_2, fr_2⟩, ⟨hr_3, fr_3⟩⟩ := T
 obtain ⟨hlp, hlr⟩ := L
 obtain ⟨hnp0, hnp1, hkp1, hnp2, hkp2⟩ := ap0 hlp
 obtain ⟨hnr0, hkr1⟩ := ap1 hlr
 have hB := hB'; clear hB'
 have hsz := hB.size
 obtain ⟨a4, c4, rfl⟩ := hx2.form
 have HX2 := hid (And.intro hx2 (fun g h => Nat.le_trans (show w.heap.size + 2 ≤ _ by have := HZ1.out; simp; omega) (hy2 g h)))
 have HX3 := hid (And.intro ((holdsE_set HX1.out.1 HX1.out.2 (p := ⟨w.heap.size, 0, none⟩) (by show w.heap.size < _; omega) (.slice a3 m1 c3)).below hs_u2.out) HX1.out.2)
 clear hx2 hy2 hBq
 generalize (sortS pk).length = m2 at *
 go_wp2
 refine bodyPost_ret (v := .agg #[.slice a3 m1 c3, .slice a4 m2 c4, .int .i64 pd, .int .i64 pt]) (by simp [results, Tryz.results16, go_sem, hp_0, hp_1, hp_2, hp_3, hr_0, hr_1, hr_2, hr_3] <;> first | done | rfl) rfl ⟨_, _, rfl, ?_, ?_, (fun g h => by have := HX1.out.2 g h; omega), (fun g h => by have := HX2.out.2 g h; omega), by go_grown⟩
 ·(repeat (refine holdsE_set (B := w.heap.size + 2) ?_ HX3.out.2 (by simp) _))
  exact HX3.out.1
 ·(repeat (refine holdsE_set (B := w.heap.size + 2) ?_ HX2.out.2 (by simp) _))
  exact HX2.out.1
end Go.Proofs.YtjcmblbnbpikfaaGreatDoor
