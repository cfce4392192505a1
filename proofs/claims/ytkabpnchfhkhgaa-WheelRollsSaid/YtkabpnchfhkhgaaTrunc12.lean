/-
  math.Trunc of doubles that are exact: cut towards 0.
-/
import Derived.Test.YtkabpnchfhkhgaaFar12
import Derived.Laws.Externs
set_option linter.unusedSimpArgs false
set_option linter.unusedVariables false
namespace Go.Proofs.Ytkabpnchfhkhgaa
open Go.RowKit Go.PlainAid

theorem entry_arr (x : Nat) {f : Nat → Sem Value} {g : Array Value → Sem Value} : Extern.MathFloor.toIntegral.match_2 (fun _ => Sem Value) #[.float .f64 x] f g = f x := rfl
theorem entry_num (nm : String) (way : Ieee.Toward) (x : Nat) (s m i) (h : FloatKind.f64.decode x = .number s m i) : Extern.MathFloor.toIntegral nm way #[.float .f64 x] = pure (.float .f64 (FloatKind.f64.encode (Ieee.Datum.integral way (.number s m i)))) := by
  unfold Extern.MathFloor.toIntegral
  rw [entry_arr, h]
theorem cut_pow (s : Bool) (N j k : Nat) : Ieee.Toward.zero.cut s (N * 2 ^ j) (k + j) = N / 2 ^ k := by
  have hd : ∀ N J : Nat, N * 2 ^ J / 2 ^ (k + J) = N / 2 ^ k := fun N J => by
    rw [Nat.pow_add, Nat.mul_comm (2 ^ k), ← Nat.div_div_eq_div_mul, Nat.mul_div_cancel _ (Nat.two_pow_pos _)]
  unfold Ieee.Toward.cut
  dsimp only
  by_cases hm : k + j ≤ (N * 2 ^ j).log2 + 2
  · rw [Nat.min_eq_left hm, Nat.shiftLeft_eq, Nat.one_mul, hd]
    simp
  · rw [Nat.min_eq_right (by omega), Nat.shiftLeft_eq, Nat.one_mul]
    have hlt : N * 2 ^ j < 2 ^ ((N * 2 ^ j).log2 + 1) := by
      by_cases h0 : N * 2 ^ j = 0
      · rw [h0]; exact Nat.two_pow_pos _
      · exact (Nat.log2_lt h0).1 (Nat.lt_succ_self _)
    have hle : N * 2 ^ j < 2 ^ ((N * 2 ^ j).log2 + 2) := Nat.lt_of_lt_of_le hlt (Nat.pow_le_pow_right (by omega) (by omega))
    have hle2 : N * 2 ^ j < 2 ^ (k + j) := Nat.lt_of_lt_of_le hlt (Nat.pow_le_pow_right (by omega) (by omega))
    have h1 := hd N j
    rw [Nat.div_eq_of_lt hle2] at h1
    rw [Nat.div_eq_of_lt hle, ← h1]
    simp
/-- What the cut of it is. -/
theorem tdiv_abs {s : Bool} {n : Int} (hs : n ≠ 0 → s = decide (n < 0)) (k : Nat) : n.natAbs / 2 ^ k = (n.tdiv (2 ^ k)).natAbs ∧ (n.tdiv (2 ^ k) ≠ 0 → s = decide (n.tdiv (2 ^ k) < 0)) := by
  have hp : (((2 ^ k : Nat) : Nat) : Int) = 2 ^ k := by simp
  rw [← hp]
  obtain ⟨K, hK⟩ : ∃ K, 2 ^ k = K := ⟨_, rfl⟩
  rw [hK]
  have h1 : (n.tdiv (K : Int)).natAbs = n.natAbs / K := by rw [Int.natAbs_tdiv]; rfl
  refine ⟨h1.symm, fun h => ?_⟩
  have hn : n ≠ 0 := fun e => h (by rw [e, Int.zero_tdiv])
  rw [hs hn]
  refine decide_eq_decide.2 ?_
  have key : ∀ m : Int, 0 ≤ m → 0 ≤ m.tdiv (K : Int) := fun m hm => Int.tdiv_nonneg hm (by omega)
  constructor
  · intro hlt
    have h2 := key (-n) (by omega)
    rw [Int.neg_tdiv] at h2
    omega
  · intro hlt
    rcases Int.lt_or_le n 0 with h3 | h3
    · exact h3
    · have := key n h3; omega
theorem run_trunc {s : Bool} {n : Int} {k : Nat} (h : Fine s n k) (W : World) : ∃ P, ZW (n.tdiv (2 ^ k)) P ∧ ∀ W, (callFunc 28 #[.float .f64 (fz s n k)]).run Try.prog W = .ok (.value (.float .f64 P)) W := by
  obtain ⟨e1, e2⟩ := tdiv_abs h.s k
  have hs : (n.tdiv (2 ^ k)).natAbs < 2 ^ 53 := by
    rw [← e1]; exact Nat.lt_of_le_of_lt (Nat.div_le_self _ _) h.n
  refine ⟨fz s (n.tdiv (2 ^ k)) 0, ⟨s, rfl, ⟨e2, hs, by omega⟩⟩, fun W => ?_⟩
  refine (run_callFunc_extern Try.func28 (by kernel_rfl) (by kernel_rfl) (by kernel_rfl) (e := Extern.MathFloor.toIntegral "math.archTrunc" .zero) (by kernel_rfl) _ W).trans ?_
  have hr : FloatKind.f64.decode (fz s n k) = .number s (n.natAbs * 2 ^ more n k) (-((k + more n k : Nat) : Int)) := read_fz h
  rw [entry_num _ _ _ _ _ _ hr]
  have hw : FloatKind.f64.encode (Ieee.Datum.integral .zero (.number s (n.natAbs * 2 ^ more n k) (-((k + more n k : Nat) : Int)))) = fz s (n.tdiv (2 ^ k)) 0 := by
    unfold Ieee.Datum.integral
    dsimp only
    generalize more n k = j
    have a1 : (-((k + j : Nat) : Int)).toNat = 0 := by omega
    have a2 : (-(-((k + j : Nat) : Int))).toNat = k + j := by omega
    rw [a1, a2, Nat.shiftLeft_zero, cut_pow, e1]
    rfl
  rw [hw]
  rfl
set_option maxRecDepth 100000 in
theorem trunc_c {P D : Nat} (h : ∀ W, (callFunc 28 #[.float .f64 P]).run Try.prog W = .ok (.value (.float .f64 D)) W) (w : World) :
    Calls Try.prog 27 #[.float .f64 P] w fun e w' => e = .returned (.float .f64 D) ∧ Below w.heap.size w w' := by
  go_enter Try.func27, Try.ntmps27
  go_wp2
  go_ret
  exact ⟨rfl, by go_grown⟩
end Go.Proofs.Ytkabpnchfhkhgaa
