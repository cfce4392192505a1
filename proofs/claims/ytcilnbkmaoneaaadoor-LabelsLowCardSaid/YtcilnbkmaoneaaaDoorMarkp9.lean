/-
  The program: the bits at an address; a span's bits stood at its addresses.
-/
import Derived.Test.YtcilnbkmaoneaaaDoorZero9
import Derived.Test.YtcilnbkmaoneaaaDoorRise9
import Derived.Test.YtcilnbkmaoneaaaDoorFew9
import Derived.Test.YtcilnbkmaoneaaaDoorPlanX
set_option linter.unusedSimpArgs false
set_option linter.unusedVariables false
namespace Go.Proofs.YtcilnbkmaoneaaaDoor
open Go.RowKit Go.PlainAid

theorem grown_of9 {w u : World} {g : Option Nat} (h : Below w.heap.size w u) : w.grownBy u g := ⟨h.os, h.tape, h.output, h.size, fun b hb _ => h.block b hb⟩
/-- Behind a store into a block all others are as they were. -/
theorem grown_cell9 {w u : World} {bb o : Nat} {v : Value} (h : w.grownBy u (some bb)) : w.grownBy (u.setCell ⟨bb, o, none⟩ v) (some bb) :=
  ⟨h.os, h.tape, h.output, by rw [World.size_setCell]; exact h.size, fun b hb hne => (heap_setCell_other u ⟨bb, o, none⟩ b v (by simpa using hne)).trans (h.block b hb hne)⟩
/-- Bits by addresses that lie in the block tb from o on; its other cells are A0's. -/
def Row9 (tb o : Nat) (A0 : Array Value) (S : Int → Int) (w : World) : Prop :=
  ∃ A t, w.heap[tb]? = some (.cells A t (0, 0)) ∧ A.size = A0.size ∧ (∀ k : Nat, k < 65536 → A[o + k]? = some (.int .u8 (S (k : Int)))) ∧ ∀ j, j < o ∨ o + 65536 ≤ j → A[j]? = A0[j]?
theorem Row9.at_ {tb o : Nat} {A0 : Array Value} {S : Int → Int} {w : World} (h : Row9 tb o A0 S w) (k : Nat) (hk : k < 65536) : w.cell? ⟨tb, o + k, none⟩ = some (.int .u8 (S (k : Int))) := by
  obtain ⟨A, t, h, _, h1, _⟩ := h
  rw [cell_of_row w tb _ A t _ h]
  exact h1 k hk
theorem Row9.free {tb o : Nat} {A0 : Array Value} {S : Int → Int} {w : World} (h : Row9 tb o A0 S w) (j : Nat) : w.frozen? ⟨tb, j, none⟩ = false := by
  obtain ⟨A, t, h, _⟩ := h
  exact frozen_of_row w tb j A t h
theorem Row9.lt {tb o : Nat} {A0 : Array Value} {S : Int → Int} {w : World} (h : Row9 tb o A0 S w) : tb < w.heap.size := by
  obtain ⟨A, t, h, _⟩ := h
  exact (Array.getElem?_eq_some_iff.1 h).1
theorem Row9.keep {tb o : Nat} {A0 : Array Value} {S : Int → Int} {w u : World} (h : Row9 tb o A0 S w) (hb : u.heap[tb]? = w.heap[tb]?) : Row9 tb o A0 S u := by
  obtain ⟨A, t, h, h1⟩ := h
  exact ⟨A, t, hb.trans h, h1⟩
theorem Row9.below {tb o : Nat} {A0 : Array Value} {S : Int → Int} {w u : World} (h : Row9 tb o A0 S w) (hb : Below w.heap.size w u) : Row9 tb o A0 S u := h.keep (hb.block tb h.lt)
def putF (S : Int → Int) (k v : Int) : Int → Int := fun a => if a = k then v else S a
theorem Row9.set {tb o : Nat} {A0 : Array Value} {S : Int → Int} {w : World} (h : Row9 tb o A0 S w) (hs : o + 65536 ≤ A0.size) (k : Nat) (hk : k < 65536) (v : Int) : Row9 tb o A0 (putF S (k : Int) v) (w.setCell ⟨tb, o + k, none⟩ (.int .u8 v)) := by
  obtain ⟨A, t, h, h0, h1, h2⟩ := h
  refine ⟨_, t, heap_setCell_same w tb (o + k) A t _ h, by rw [Array.size_setIfInBounds, h0], fun j hj => ?_, fun j hj => ?_⟩
  · unfold putF
    by_cases e : j = k
    · subst e
      rw [if_pos rfl, Array.getElem?_setIfInBounds_self, if_pos (by omega)]
    · rw [if_neg (by omega), Array.getElem?_setIfInBounds_ne (by omega)]
      exact h1 j hj
  · rw [Array.getElem?_setIfInBounds_ne (by omega)]
    exact h2 j hj
theorem Row9.cong {tb o : Nat} {A0 : Array Value} {S T : Int → Int} {w : World} (h : Row9 tb o A0 S w) (e : ∀ k : Nat, k < 65536 → S (k : Int) = T (k : Int)) : Row9 tb o A0 T w := by
  obtain ⟨A, t, h, h0, h1, h2⟩ := h
  exact ⟨A, t, h, h0, fun k hk => by rw [h1 k hk, e k hk], h2⟩
/-- A span's bits at the first k of its addresses. -/
def partF (S : Int → Int) (x : Sp) (k : Nat) : Int → Int := fun a => if x.f ≤ a ∧ a < x.f + k then x.b else S a
theorem partF_zero (S : Int → Int) (x : Sp) : partF S x 0 = S := by
  funext a
  unfold partF
  rw [if_neg (by omega)]
theorem partF_snoc (S : Int → Int) (x : Sp) (k : Nat) : putF (partF S x k) (x.f + k) x.b = partF S x (k + 1) := by
  funext a
  unfold putF partF
  by_cases e : a = x.f + k
  · rw [if_pos e, if_pos (by omega)]
  · rw [if_neg e]
    by_cases h : x.f ≤ a ∧ a < x.f + k
    · rw [if_pos h, if_pos (by omega)]
    · rw [if_neg h, if_neg (by omega)]
theorem partF_all (S : Int → Int) (x : Sp) (h : x.f ≤ x.t) : partF S x (x.t - x.f + 1).toNat = markF S x := by
  funext a
  unfold partF markF
  by_cases e : onB x a = true
  · rw [if_pos e]
    rw [onB_iff] at e
    rw [if_pos (by omega)]
  · have e' : onB x a = false := by simpa using e
    rw [if_neg e]
    rw [onB_not] at e'
    rw [if_neg (by omega)]
def ofF (S : Int → Int) (a : Int) : Int := if 0 ≤ a ∧ a < 65536 then S a else 0
set_option maxRecDepth 100000 in
theorem of_c (S : Int → Int) (tb o : Nat) (a : Int) (w : World) (h : ∀ k : Nat, k < 65536 → w.cell? ⟨tb, o + k, none⟩ = some (.int .u8 (S (k : Int)))) :
    Calls Tryd.prog 34 #[.pointer (some ⟨tb, o, none⟩), .int .i64 a] w fun e w' => e = .returned (.int .u8 (ofF S a)) ∧ Below w.heap.size w w' := by
  by_cases h0 : a < 0
  · have e : ofF S a = 0 := by unfold ofF; rw [if_neg (by omega)]
    rw [e]
    clear h
    go_enter Tryd.func34, Tryd.ntmps34
    go_wp2
    go_ret
    exact ⟨rfl, by go_grown⟩
  · by_cases h1 : 65536 ≤ a
    · have e : ofF S a = 0 := by unfold ofF; rw [if_neg (by omega)]
      rw [e]
      clear h
      go_enter Tryd.func34, Tryd.ntmps34
      go_wp2
      go_ret
      exact ⟨rfl, by go_grown⟩
    · have e : ofF S a = S a := by unfold ofF; rw [if_pos (by omega)]
      rw [e]
      obtain ⟨k, rfl⟩ : ∃ k : Nat, a = (k : Int) := ⟨a.toNat, by omega⟩
      have hk : k < 65536 := by omega
      have hc := h k hk
      have hin : (0 : Int) ≤ (k : Int) ∧ (k : Int) < 65536 := by omega
      obtain ⟨R, hR⟩ : ∃ R, S (k : Int) = R := ⟨_, rfl⟩
      rw [hR] at hc ⊢
      have h1' : ¬ (65536 : Int) ≤ (k : Int) := h1
      clear h hR e
      go_enter Tryd.func34, Tryd.ntmps34
      go_wp2
      go_ret
      exact ⟨rfl, by go_grown⟩
set_option maxRecDepth 100000 in
set_option maxHeartbeats 2000000 in
theorem mark_c (A0 : Array Value) (S : Int → Int) (x : Sp) (hx : 0 ≤ x.f ∧ x.f ≤ x.t ∧ x.t ≤ 65535) (tb o : Nat) (hs : o + 65536 ≤ A0.size) (w : World) (h : Row9 tb o A0 S w) :
    Calls Tryd.prog 39 #[.pointer (some ⟨tb, o, none⟩), .agg #[.int .i64 x.f, .int .i64 x.t, .int .u8 x.b]] w fun e w' => (∃ v, e = .returned v) ∧ w.grownBy w' (some tb) ∧ Row9 tb o A0 (markF S x) w' := by
  have HP := Lib.hid h
  have HALL := Lib.hid (partF_all S x hx.2.1)
  have HSN := Lib.hid (partF_snoc S x)
  have HZ := Lib.hid (partF_zero S x)
  have HS := Lib.hid hs
  have hlt := h.lt
  obtain ⟨N, hN⟩ : ∃ N, (x.t - x.f + 1).toNat = N := ⟨_, rfl⟩
  rw [hN] at HALL
  obtain ⟨f, t, b⟩ := x
  dsimp only at hx hN HSN ⊢
  obtain ⟨f, rfl⟩ : ∃ k : Nat, f = (k : Int) := ⟨f.toNat, by omega⟩
  obtain rfl : t = (f : Int) + (N : Int) - 1 := by omega
  have HX := Lib.hid hx
  clear h hs hx hN
  go_enter Tryd.func39, Tryd.ntmps39
  go_wp2_with fail
  go_loopw [4] (fun s4 wr => ∃ k : Nat, k ≤ N ∧ s4 = .int .i64 ((f : Int) + (k : Int)) ∧ Hid (Row9 tb o A0 (partF S ⟨f, (f : Int) + (N : Int) - 1, b⟩ k) wr) ∧ Hid (w.grownBy wr (some tb)) ∧ wr.cell? ⟨w.heap.size, 1, none⟩ = some (.int .i64 ((f : Int) + (N : Int) - 1)) ∧ wr.cell? ⟨w.heap.size, 2, none⟩ = some (.int .u8 b)) (fun i _ => (f + (N : Int) - intOf i).toNat)
  case atStart => exact ⟨0, Nat.zero_le _, by simp, Lib.hid (by rw [HZ.out]; exact HP.out.below (by go_grown)), Lib.hid (grown_of9 (by go_grown)), by go_simp, by go_simp⟩
  case round =>
    obtain ⟨k, hk, rfl, HR, HG, hc1, hc2⟩ := hrel
    by_cases hlt2 : k < N
    · have hd : decide ((f : Int) + (k : Int) ≤ (f : Int) + (N : Int) - 1) = true := decide_eq_true (by omega)
      have hj6 : f + k < 65536 := by have := HX.out; omega
      have hw1 : IntKind.i64.wrap ((f : Int) + (k : Int) + 1) = (f : Int) + (k : Int) + 1 := IntWalk.i64_in _ (by omega)
      have hin2 : (0 : Int) ≤ (f : Int) + (k : Int) ∧ (f : Int) + (k : Int) < 65536 := by omega
      have hB : Below wr.heap.size wr wr := Below.refl _ _
      have hsz := hB.size
      have HSk := Lib.hid (HSN.out k)
      have hsq_1 := hc1
      have hsq_2 := hc2
      have hne : w.heap.size ≠ tb := by omega
      clear hc1 hc2
      go_wp2_with fail
      refine wp_region_planT 6 (fun w' => w'.cell? ⟨w.heap.size, 1, none⟩ = some (.int .i64 ((f : Int) + (N : Int) - 1)) ∧ w'.cell? ⟨w.heap.size, 1 + 1, none⟩ = some (.int .u8 b) ∧ Below wr.heap.size wr w') (by kernel_rfl) (by kernel_rfl) (by kernel_rfl) (by kernel_rfl) ?_ ?_
      · (try dsimp only)
        refine ⟨?_, ?_, ?_⟩ <;> first | (go_simp; done) | (simp [*]; done) | go_grown
      (try simp only [List.append_eq, List.cons_append, List.nil_append, List.toList_toArray, List.take_succ_cons, List.take_zero, List.drop_succ_cons, List.drop_zero])
      repeat (first
        | (refine Plan.val (v := ?_) ?_ ?_ ?_; rotate_left; (· rfl); (· (intro W hSw; (try dsimp only at hSw); go_simp; all_goals (first | (with_reducible rfl) | (constructor <;> (with_reducible rfl)) | (rw [if_neg (by omega)]; done) | (rw [if_neg (by omega)]; with_reducible rfl)))); (try simp only [Act.put, List.setIfInBounds_toArray, List.set_cons_zero, List.set_cons_succ]))
        | (refine Plan.no ?_ ?_; (· rfl); (try simp only [Act.put, List.setIfInBounds_toArray, List.set_cons_zero, List.set_cons_succ])))
      refine Plan.done ?_
      intro u3 T
      (try dsimp only at T)
      obtain ⟨hsq_0, hsq_1, hB⟩ := T
      have hsz := hB.size
      have hlsq := klt hsq_0
      obtain ⟨hnsq0, hnsq1, hksq1, hnsq2, hksq2⟩ := ap0 hlsq
      have HR3 := Lib.hid (HR.out.below hB)
      have HG3 := Lib.hid (World.grownBy.trans HG.out (grown_of9 hB))
      have z1 := HR3.out.free (o + (f + k))
      have y1 := HR3.out.at_ (f + k) hj6
      have hbr := HR3.out.lt
      clear hB
      go_wp2
      all_goals
        go_roundw
        case rel =>
          refine ⟨k + 1, by omega, by go_num, Lib.hid ?_, Lib.hid ?_, by go_simp, by go_simp⟩
          · rw [← HSk.out]
            exact HR3.out.set HS.out (f + k) hj6 b
          · exact grown_cell9 HG3.out
        case measure => simp [intOf] <;> omega
    · have hkm : k = N := by omega
      have hd : decide ((f : Int) + (k : Int) ≤ (f : Int) + (N : Int) - 1) = false := decide_eq_false (by omega)
      have HF := Lib.hid (show Row9 tb o A0 (markF S ⟨f, (f : Int) + (N : Int) - 1, b⟩) wr from by have := HR.out; rw [hkm, HALL.out] at this; exact this)
      go_wp2
      go_end0
      exact ⟨⟨_, rfl⟩, HG.out, HF.out⟩
end Go.Proofs.YtcilnbkmaoneaaaDoor
