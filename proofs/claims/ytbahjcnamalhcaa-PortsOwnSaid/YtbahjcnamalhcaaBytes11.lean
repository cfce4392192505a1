/-
  The law's few, and bytes.
-/
import Derived.Test.YtbahjcnamalhcaaRef11
import Derived.Deep.LoopGhost
set_option linter.unusedSimpArgs false
set_option linter.unusedVariables false
namespace Go.Proofs.Ytbahjcnamalhcaa
open Go.RowKit Go.PlainAid

def fewB (p s n : Nat) : Bool := decide (p ≤ 300) && decide (s ≤ 300) && decide (n ≤ 200)
set_option maxRecDepth 100000 in
theorem few11_c (p s n : Nat) (a b c : Option Addr) (ca cb cc : Nat) (w : World) :
    Calls Try.prog 7 #[.agg #[.slice a p ca, .slice b s cb], .slice c n cc] w fun e w' => e = .returned (.bool (fewB p s n)) ∧ Below w.heap.size w w' := by
  unfold fewB
  by_cases h1 : p ≤ 300
  case neg =>
    rw [decide_eq_false h1, Bool.false_and, Bool.false_and]
    have h1' : ¬ (p : Int) ≤ 300 := by omega
    go_enter Try.func7, Try.ntmps7
    go_wp2
    go_ret
    exact ⟨rfl, by go_grown⟩
  have h1' : (p : Int) ≤ 300 := by omega
  rw [decide_eq_true h1, Bool.true_and]
  by_cases h2 : s ≤ 300
  case neg =>
    rw [decide_eq_false h2, Bool.false_and]
    have h2' : ¬ (s : Int) ≤ 300 := by omega
    go_enter Try.func7, Try.ntmps7
    go_wp2
    go_ret
    exact ⟨rfl, by go_grown⟩
  have h2' : (s : Int) ≤ 300 := by omega
  rw [decide_eq_true h2, Bool.true_and]
  by_cases h3 : n ≤ 200
  · have h3' : (n : Int) ≤ 200 := by omega
    rw [decide_eq_true h3]
    go_enter Try.func7, Try.ntmps7
    go_wp2
    go_ret
    exact ⟨rfl, by go_grown⟩
  · have h3' : ¬ (n : Int) ≤ 200 := by omega
    rw [decide_eq_false h3]
    go_enter Try.func7, Try.ntmps7
    go_wp2
    go_ret
    exact ⟨rfl, by go_grown⟩
set_option maxRecDepth 100000 in
set_option maxHeartbeats 2000000 in
theorem bytes11_c (l : List Int) (hl : l.length ≤ 100000) (v1 v2 : Value) (w : World) (h1 : HoldsW bE 1 w v1 l) (h2 : HoldsW bE 1 w v2 l) :
    Calls Try.prog 16 #[v1, v2] w fun e w' => e = .returned (.bool true) ∧ Below w.heap.size w w' := by
  obtain ⟨p1, c1, rfl⟩ := h1.form
  obtain ⟨p2, c2, rfl⟩ := h2.form
  have H1 := Lib.hid h1
  have H2 := Lib.hid h2
  obtain ⟨n, hn⟩ : ∃ n, l.length = n := ⟨_, rfl⟩
  rw [hn] at hl ⊢
  have HN := Lib.hid hn
  have HB := Lib.hid (Below.refl w.heap.size w)
  clear h1 h2 hn
  go_enter Try.func16, Try.ntmps16
  go_wp2_with fail
  go_loopg [5] n (fun kx s5 wr => ∃ k : Nat, s5 = .int .i64 k ∧ k ≤ n ∧ n - k ≤ kx ∧ Hid (Below w.heap.size w wr))
  case atStart => exact ⟨0, by simp, Nat.zero_le _, by omega, HB⟩
  case round =>
    obtain ⟨k, rfl, hk, hkx, HBr⟩ := hrel
    by_cases hlt : k < n
    · have hkl : k < l.length := by have := HN.out; omega
      obtain ⟨g1, o1, cap1, e1, _, hc1⟩ := H1.out.some (by omega)
      obtain ⟨g2, o2, cap2, e2, _, hc2⟩ := H2.out.some (by omega)
      obtain ⟨rfl, -, rfl⟩ := Value.slice.inj e1
      obtain ⟨rfl, -, rfl⟩ := Value.slice.inj e2
      have x1 := hc1 k _ (List.getElem?_eq_getElem hkl) 0 _ rfl
      have x2 := hc2 k _ (List.getElem?_eq_getElem hkl) 0 _ rfl
      rw [Nat.mul_one, Nat.add_zero] at x1 x2
      generalize l[k] = X at *
      have hg1 := klt x1
      have hg2 := klt x2
      have hB := HBr.out
      have x1 := kc hB x1
      have x2 := kc hB x2
      have hl1 := klt x1
      have hl2 := klt x2
      have hin : (0 : Int) ≤ (k : Int) ∧ (k : Int) < (n : Int) := by omega
      clear e1 e2 hc1 hc2 hkl
      have hp_0 := x1
      have hq_0 := x2
      clear x1 x2
      go_wp2_with fail
      refine wp_region_plan (fun w' => w'.cell? ⟨g1, o1 + k, none⟩ = some (.int .u8 X) ∧ w'.cell? ⟨g2, o2 + k, none⟩ = some (.int .u8 X) ∧ Below w.heap.size w w') (by kernel_rfl) (by kernel_rfl) (by kernel_rfl) ?_ ?_
      · (try dsimp only)
        refine ⟨?_, ?_, ?_⟩ <;> first | (go_simp; done) | (simp [*]; done) | go_grown
      repeat (first
        | (refine Plan.val (v := ?_) ?_ ?_ ?_; rotate_left; (· rfl); (· (intro W hSw; (try dsimp only at hSw); go_simp; all_goals (first | (with_reducible rfl) | (constructor <;> (with_reducible rfl)) | (rw [if_neg (by omega)]; done) | (rw [if_neg (by omega)]; with_reducible rfl)))); (try simp only [Act.put, List.setIfInBounds_toArray, List.set_cons_zero, List.set_cons_succ]))
        | (refine Plan.no ?_ ?_; (· rfl); (try simp only [Act.put, List.setIfInBounds_toArray, List.set_cons_zero, List.set_cons_succ])))
      refine Plan.done ?_
      intro u T
      (try dsimp only at T)
      obtain ⟨hp_0, hq_0, hB⟩ := T
      have hsz := hB.size
      have hlp := klt hp_0
      have hlq := klt hq_0
      obtain ⟨hnp0, hnp1, hkp1, hnp2, hkp2⟩ := ap0 hlp
      obtain ⟨hnq0, hnq1, hkq1, hnq2, hkq2⟩ := ap0 hlq
      have HB2 := Lib.hid hB
      go_wp2
      go_roundg (n - (k + 1))
      case measure => omega
      case rel => exact ⟨k + 1, by go_num, by omega, by omega, HB2⟩
    · have hge : (n : Int) ≤ (k : Int) := by omega
      go_wp2
      go_ret
      exact ⟨rfl, HBr.out⟩
end Go.Proofs.Ytbahjcnamalhcaa
