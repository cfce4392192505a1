/-
  The library's Concat of two lists of numbers.
-/
import Derived.Test.YtcplegelppfdeaaDoorRows14
import Derived.Lib.AppendZeros
import Derived.Deep.LoopGhost
set_option linter.unusedSimpArgs false
set_option linter.unusedVariables false
namespace Go.Proofs.YtcplegelppfdeaaDoor
open Go.RowKit Go.PlainAid

theorem own_room {w : World} {B g c : Nat} {T : TypeId} {cs : Array Value} (hB : B ≤ g) (hg : w.heap[g]? = some (.cells cs T (0, 0))) (hc : c ≤ maxLen) (hs : cs.size = c * 1) : w.ownsRow B T 1 (.slice (some ⟨g, 0, none⟩) 0 c) 0 [] :=
  ⟨rfl, .inr ⟨g, c, cs, rfl, hB, hg, Nat.zero_le _, hc, hs, rfl⟩⟩
set_option maxRecDepth 100000 in
set_option maxHeartbeats 4000000 in
theorem grow14_c (n : Nat) (h0 : 0 < n) (hn : n ≤ 1000) (w : World) : Calls Tryd.prog 31 #[.slice none 0 0, .int .i64 n] w fun e u => ∃ g c, e = .returned (.slice (some ⟨g, 0, none⟩) 0 c) ∧ u.ownsRow w.heap.size 3 1 (.slice (some ⟨g, 0, none⟩) 0 c) 0 [] ∧ Below w.heap.size w u := by
  obtain ⟨i0, hi, hz0, hz1, hz2⟩ := info_parts Tryd.infoN14
  have hr := fun W => Go.Lib.run_append_nil_zeros (P := Tryd.prog) W 22 3 22 3 i0 (.int .i64 0) .i64 .i64 Tryd.underlying22 Tryd.underlying3 hi hz0 n h0 (by omega) (by omega) (by rw [hz2]; omega)
  have hx : ¬ ((n : Int) < 0) := by omega
  have hd1 : decide ((n : Int) < 0) = false := decide_eq_false hx
  have hd2 : decide ((0 : Int) < (n : Int)) = true := decide_eq_true (by omega)
  have hcg := grownCap_ge w n 0 3
  have hcm := grownCap_le_maxLen w n 0 3 (by unfold maxLen; omega)
  go_enter Tryd.func31, Tryd.ntmps31
  go_wp2_with (at_builtin; refine Go.Lib.wpList_append_run _ rfl _ _ _ _ rfl _ _ rfl rfl _ _ (hr _) ?_)
  go_ret
  refine ⟨_, _, rfl, own_room (Nat.le_refl _) (heap_alloc_new w.drew _) hcm ?_, by go_grown⟩
  simp only [Array.size_append, size_zeroCells]
  show n * 1 + (grownCap w n 0 3 - n) * 1 = _
  omega
def two14 (l m : List Int) (k : Nat) : List Int := if k = 0 then l else m
set_option maxRecDepth 100000 in
set_option maxHeartbeats 4000000 in
theorem concat14_c (l m : List Int) (hl : 0 < l.length ∧ l.length ≤ 100) (hm : m.length ≤ 100) (v1 v2 : Value) (g : Nat) (w : World) (h1 : HoldsW nE 1 w v1 l) (h2 : HoldsW nE 1 w v2 m) (c0 : w.cell? ⟨g, 0, none⟩ = some v1) (c1 : w.cell? ⟨g, 1, none⟩ = some v2) :
    Calls Tryd.prog 25 #[.slice (some ⟨g, 0, none⟩) 2 2] w fun e u => ∃ v, e = .returned v ∧ MineI w.heap.size v (l ++ m) u ∧ Below w.heap.size w u := by
  obtain ⟨i0, hi, hz0, hz1, hz2⟩ := info_parts Tryd.infoN14
  obtain ⟨p1, d1, rfl⟩ := h1.form
  obtain ⟨p2, d2, rfl⟩ := h2.form
  obtain ⟨nl, hnl⟩ : ∃ n, l.length = n := ⟨_, rfl⟩
  obtain ⟨nm', hnm⟩ : ∃ n, m.length = n := ⟨_, rfl⟩
  have H1 := Lib.hid (fun W (h : Below w.heap.size w W) => h1.below h)
  have H2 := Lib.hid (fun W (h : Below w.heap.size w W) => h2.below h)
  have hg := klt c0
  have HG := Lib.hid (fun n h0 hn W => grow14_c n h0 hn W)
  rw [hnl] at c0 hl
  rw [hnm] at c1 hm
  clear h1 h2
  have hdl : decide ((nl : Int) < 0) = false := decide_eq_false (by omega)
  have hdm : decide ((nl : Int) + (nm' : Int) < 0) = false := decide_eq_false (by omega)
  go_enter Tryd.func25, Tryd.ntmps25
  go_wp2_with fail
  go_loopg [3, 11] 2 (fun q s3 s11 wr => (∃ k : Nat, k ≤ 2 ∧ 2 - k ≤ q ∧ s11 = .int .i64 k ∧ s3 = .int .i64 ((if k = 0 then 0 else if k = 1 then nl else nl + nm' : Nat) : Int)) ∧ Below w.heap.size w wr) 
  case atStart => exact ⟨⟨0, by omega, by omega, rfl, rfl⟩, Below.refl _ _⟩
  case round =>
    obtain ⟨⟨k, hk, hq, rfl, rfl⟩, hB⟩ := hrel
    have c0w := c0
    have c1w := c1
    have c0 := kc hB c0
    have c1 := kc hB c1
    have hg := klt c0
    match k, hk with
    | 0, _ =>
      go_wp2
      go_roundg 1
      case rel => exact ⟨⟨1, by omega, by omega, rfl, by simp⟩, by go_grown⟩
      case measure => omega
    | 1, _ =>
      go_wp2
      go_roundg 0
      case rel => exact ⟨⟨2, by omega, by omega, rfl, by simp⟩, by go_grown⟩
      case measure => omega
    | 2, _ =>
      clear hdl hdm
      go_wp2_with fail
      refine (HG.out (nl + nm') (by omega) (by omega) _).mono ?_
      rintro _ u ⟨gg, cc, rfl, ho, hb⟩
      have hBu : Below w.heap.size w u := hB.trans (hb.mono hB.size)
      have HO := Lib.hid (show MineI w.heap.size (.slice (some ⟨gg, 0, none⟩) 0 cc) [] u from ⟨own_low ho hB.size⟩)
      clear hb ho
      have c0 := kc hBu c0w
      have c1 := kc hBu c1w
      clear hB
      go_wp2_with fail
      go_loopg [6, 27] 2 (fun q s6 s27 wr => ∃ k : Nat, k ≤ 2 ∧ 2 - k ≤ q ∧ s27 = .int .i64 k ∧ Hid (MineI w.heap.size s6 (if k = 0 then [] else if k = 1 then l else l ++ m) wr) ∧ Below w.heap.size w wr) 
      case atStart => exact ⟨0, by omega, by omega, rfl, HO, hBu⟩
      case round =>
        clear hBu HO c0 c1 hg
        obtain ⟨k, hk, hq, rfl, HS, hB⟩ := hrel
        have c0 := kc hB c0w
        have c1 := kc hB c1w
        have hg := klt c0
        have HB := Lib.hid hB
        have hsz := hB.size
        match k, hk with
        | 0, _ =>
          rw [if_pos rfl] at HS
          obtain ⟨p6, d6, rfl⟩ := own_form HS.out.o
          go_wp2_with (at_builtin; refine wpList_append_o _ rfl _ _ 22 rfl 3 i0 (.int .i64 0) 8 Tryd.underlying22 hi hz0 hz1 hz2 rfl w.heap.size hsz [] _ rfl HS.out.o l _ ?X0 ((H1.out _ HB.out)) ?X1 ?X2 ?_)
          case X0 => rw [hnl]; rfl
          case X1 => unfold maxLen; simp; omega
          case X2 => simp; omega
          intro v4 U4 h4 hg4
          have hB4 : Below w.heap.size w U4 := Below.grown HB.out hg4 hsz (fun k hk => (HS.out.o.lt k hk).1)
          have HZ := Lib.hid (show MineI w.heap.size v4 l U4 from ⟨by rw [hnl]; exact h4⟩)
          clear h4 hg4
          go_wp2
          go_roundg 1
          case rel => exact ⟨1, by omega, by omega, rfl, HZ, hB4⟩
          case measure => omega
        | 1, _ =>
          rw [if_neg (by omega), if_pos rfl] at HS
          obtain ⟨p6, d6, rfl⟩ := own_form HS.out.o
          go_wp2_with (at_builtin; refine wpList_append_o _ rfl _ _ 22 rfl 3 i0 (.int .i64 0) 8 Tryd.underlying22 hi hz0 hz1 hz2 rfl w.heap.size hsz l _ rfl HS.out.o m _ ?X0 ((H2.out _ HB.out)) ?X1 ?X2 ?_)
          case X0 => rw [hnm]; rfl
          case X1 => unfold maxLen; omega
          case X2 => omega
          intro v4 U4 h4 hg4
          have hB4 : Below w.heap.size w U4 := Below.grown HB.out hg4 hsz (fun k hk => (HS.out.o.lt k (by rw [hnl]; exact hk)).1)
          have HZ := Lib.hid (show MineI w.heap.size v4 (l ++ m) U4 from ⟨by rw [List.length_append, List.flatMap_append, hnl, hnm]; exact h4⟩)
          clear h4 hg4
          go_wp2
          go_roundg 0
          case rel => exact ⟨2, by omega, by omega, rfl, HZ, hB4⟩
          case measure => omega
        | 2, _ =>
          rw [if_neg (by omega), if_neg (by omega)] at HS
          go_wp2
          go_ret
          exact ⟨_, rfl, HS.out, hB⟩
end Go.Proofs.YtcplegelppfdeaaDoor
