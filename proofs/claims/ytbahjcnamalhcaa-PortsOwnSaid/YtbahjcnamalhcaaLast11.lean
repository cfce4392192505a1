/-
  The program's last, of each kind.
-/
import Derived.Test.YtbahjcnamalhcaaClone11
set_option linter.unusedSimpArgs false
set_option linter.unusedVariables false
namespace Go.Proofs.Ytbahjcnamalhcaa
open Go.RowKit Go.PlainAid

set_option maxRecDepth 100000 in
set_option maxHeartbeats 1000000 in
theorem last_b (l : List (Int)) (v : Value) (w : World) (hv : w.ownsRow 0 5 1 v l.length (l.flatMap bE)) :
    Calls Try.prog 35 #[v] w fun e w' => e = .returned (.int .u8 (lastI l)) ∧ Below w.heap.size w w' := by
  obtain ⟨p, c, hf⟩ := own_form hv
  by_cases hl : l.length = 0
  · have h0 : l = [] := List.length_eq_zero_iff.1 hl
    subst h0
    rw [hf]
    clear hv hl hf
    dsimp only [List.length_nil]
    go_enter Try.func35, Try.ntmps35
    go_wp2
    refine bodyPost_ret (v := (.int .u8 0)) (by simp [results, Try.results35, go_sem] <;> first | done | rfl) rfl ?_
    exact ⟨rfl, by go_grown⟩
  · obtain ⟨m, hm⟩ : ∃ m, l.length = m + 1 := ⟨l.length - 1, by omega⟩
    obtain ⟨g, cap, e, hmx, hcell⟩ := row_last bE_len hv hm
    have hlast := lastI_snoc l m hm
    obtain ⟨X, hX⟩ : ∃ X, l[m]'(by omega) = X := ⟨_, rfl⟩
    rw [hX] at hlast hcell
    rw [hlast, e]
    have hx0 := hcell 0 _ rfl
    rw [Nat.add_zero] at hx0
    rw [Nat.mul_one] at hx0
    (try dsimp only at hx0)
    have hgl := klt hx0
    obtain ⟨N, hN⟩ : ∃ N, m + 1 = N := ⟨_, rfl⟩
    rw [hN]
    have hw : IntKind.i64.wrap ((N : Int) - 1) = (m : Int) := by rw [show (N : Int) - 1 = (m : Int) by omega]; exact IntWalk.i64_in _ (by omega)
    have hin : (0 : Int) ≤ (m : Int) ∧ (m : Int) < (N : Int) := by omega
    have hN0 : ¬ ((N : Int) = 0) := by omega
    have hN1 : ((N : Int) == 0) = false := by simpa using hN0
    clear hv hl hm hlast hX hcell e hN hmx hf
    (try dsimp only)
    go_enter Try.func35, Try.ntmps35
    go_wp2
    refine bodyPost_ret (v := (.int .u8 X)) (by simp [results, Try.results35, go_sem] <;> first | done | rfl) rfl ?_
    exact ⟨rfl, by go_grown⟩
set_option maxRecDepth 100000 in
set_option maxHeartbeats 1000000 in
theorem last_k (l : List (Int × Int)) (v : Value) (w : World) (hv : w.ownsRow 0 40 2 v l.length (l.flatMap kE)) :
    Calls Try.prog 36 #[v] w fun e w' => e = .returned (.agg #[.int .u8 (lastK l).1, .int .u8 (lastK l).2]) ∧ Below w.heap.size w w' := by
  obtain ⟨p, c, hf⟩ := own_form hv
  by_cases hl : l.length = 0
  · have h0 : l = [] := List.length_eq_zero_iff.1 hl
    subst h0
    rw [hf]
    clear hv hl hf
    dsimp only [List.length_nil]
    go_enter Try.func36, Try.ntmps36
    go_wp2
    refine bodyPost_ret (v := (.agg #[.int .u8 0, .int .u8 0])) (by simp [results, Try.results36, go_sem] <;> first | done | rfl) rfl ?_
    exact ⟨rfl, by go_grown⟩
  · obtain ⟨m, hm⟩ : ∃ m, l.length = m + 1 := ⟨l.length - 1, by omega⟩
    obtain ⟨g, cap, e, hmx, hcell⟩ := row_last kE_len hv hm
    have hlast := lastK_snoc l m hm
    obtain ⟨⟨X, Y⟩, hX⟩ : ∃ X, l[m]'(by omega) = X := ⟨_, rfl⟩
    rw [hX] at hlast hcell
    rw [hlast, e]
    have hx0 := hcell 0 _ rfl
    have hx1 := hcell 1 _ rfl
    (try dsimp only at hx1)
    rw [Nat.add_zero] at hx0
    (try dsimp only at hx0)
    have hgl := klt hx0
    obtain ⟨N, hN⟩ : ∃ N, m + 1 = N := ⟨_, rfl⟩
    rw [hN]
    have hw : IntKind.i64.wrap ((N : Int) - 1) = (m : Int) := by rw [show (N : Int) - 1 = (m : Int) by omega]; exact IntWalk.i64_in _ (by omega)
    have hin : (0 : Int) ≤ (m : Int) ∧ (m : Int) < (N : Int) := by omega
    have hN0 : ¬ ((N : Int) = 0) := by omega
    have hN1 : ((N : Int) == 0) = false := by simpa using hN0
    clear hv hl hm hlast hX hcell e hN hmx hf
    (try dsimp only)
    go_enter Try.func36, Try.ntmps36
    go_wp2
    refine bodyPost_ret (v := (.agg #[.int .u8 X, .int .u8 Y])) (by simp [results, Try.results36, go_sem] <;> first | done | rfl) rfl ?_
    exact ⟨rfl, by go_grown⟩
set_option maxRecDepth 100000 in
set_option maxHeartbeats 1000000 in
theorem last_e (l : List (Int × Int)) (v : Value) (w : World) (hv : w.ownsRow 0 58 2 v l.length (l.flatMap eE)) :
    Calls Try.prog 37 #[v] w fun e w' => e = .returned (.agg #[.int .i64 (lastK l).1, .int .u8 (lastK l).2]) ∧ Below w.heap.size w w' := by
  obtain ⟨p, c, hf⟩ := own_form hv
  by_cases hl : l.length = 0
  · have h0 : l = [] := List.length_eq_zero_iff.1 hl
    subst h0
    rw [hf]
    clear hv hl hf
    dsimp only [List.length_nil]
    go_enter Try.func37, Try.ntmps37
    go_wp2
    refine bodyPost_ret (v := (.agg #[.int .i64 0, .int .u8 0])) (by simp [results, Try.results37, go_sem] <;> first | done | rfl) rfl ?_
    exact ⟨rfl, by go_grown⟩
  · obtain ⟨m, hm⟩ : ∃ m, l.length = m + 1 := ⟨l.length - 1, by omega⟩
    obtain ⟨g, cap, e, hmx, hcell⟩ := row_last eE_len hv hm
    have hlast := lastK_snoc l m hm
    obtain ⟨⟨X, Y⟩, hX⟩ : ∃ X, l[m]'(by omega) = X := ⟨_, rfl⟩
    rw [hX] at hlast hcell
    rw [hlast, e]
    have hx0 := hcell 0 _ rfl
    have hx1 := hcell 1 _ rfl
    (try dsimp only at hx1)
    rw [Nat.add_zero] at hx0
    (try dsimp only at hx0)
    have hgl := klt hx0
    obtain ⟨N, hN⟩ : ∃ N, m + 1 = N := ⟨_, rfl⟩
    rw [hN]
    have hw : IntKind.i64.wrap ((N : Int) - 1) = (m : Int) := by rw [show (N : Int) - 1 = (m : Int) by omega]; exact IntWalk.i64_in _ (by omega)
    have hin : (0 : Int) ≤ (m : Int) ∧ (m : Int) < (N : Int) := by omega
    have hN0 : ¬ ((N : Int) = 0) := by omega
    have hN1 : ((N : Int) == 0) = false := by simpa using hN0
    clear hv hl hm hlast hX hcell e hN hmx hf
    (try dsimp only)
    go_enter Try.func37, Try.ntmps37
    go_wp2
    refine bodyPost_ret (v := (.agg #[.int .i64 X, .int .u8 Y])) (by simp [results, Try.results37, go_sem] <;> first | done | rfl) rfl ?_
    exact ⟨rfl, by go_grown⟩
end Go.Proofs.Ytbahjcnamalhcaa
