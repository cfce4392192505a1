/-
  Whether a name is in a list of names.
-/
import Derived.Test.YtcplegelppfdeaaDoorTab
set_option linter.unusedSimpArgs false
set_option linter.unusedVariables false
namespace Go.Proofs.YtcplegelppfdeaaDoor
open Go.RowKit Go.PlainAid

/-- Whether a name stands in a list of names of three letters each. -/
def inD (s l : ByteArray) : Bool := (List.range (l.size / 3)).any fun j => (l.extract (3 * j) (3 * j + 3)).toList == s.toList
theorem inD_some {s l : ByteArray} {j : Nat} (hj : 3 * j + 3 ≤ l.size) (h : ((l.extract (3 * j) (3 * j + 3)).toList == s.toList) = true) : inD s l = true := by
  unfold inD
  rw [List.any_eq_true]
  exact ⟨j, List.mem_range.2 (by omega), h⟩
theorem inD_none {s l : ByteArray} (hn : ∀ n, 3 * n + 3 ≤ l.size → ((l.extract (3 * n) (3 * n + 3)).toList == s.toList) = false) : inD s l = false := by
  unfold inD
  rw [List.any_eq_false]
  intro n hlt
  rw [hn n (by have := List.mem_range.1 hlt; omega)]
  simp

set_option maxRecDepth 100000 in
set_option maxHeartbeats 1000000 in
theorem in_c (s l : ByteArray) (hl : l.size ≤ 1000) (w : World) : Calls Tryd.prog 30 #[.string s, .string l] w fun e w' => e = .returned (.bool (inD s l)) ∧ w = w' := by
  go_enter Tryd.func30, Tryd.ntmps30
  go_wp2
  go_loopw [5] (fun i wr => ∃ k : Nat, 3 * k ≤ l.size ∧ i = .int .i64 (3 * (k : Int)) ∧ Hid (∀ n, n < k → ((l.extract (3 * n) (3 * n + 3)).toList == s.toList) = false) ∧ w = wr) (fun i _ => l.size + 3 - (intOf i).toNat)
  case atStart => exact ⟨0, by omega, rfl, Lib.hid (fun n h => by omega), rfl⟩
  case round =>
    obtain ⟨k, hk, rfl, HN, rfl⟩ := hrel
    by_cases hlt : 3 * k + 3 ≤ l.size
    · have hd : decide (3 * (k : Int) + 3 ≤ (l.size : Int)) = true := decide_eq_true (by omega)
      have q : ∀ W, (Instr.slice 9 (.string l) (some (.int .i64 (3 * (k : Int)))) (some (.int .i64 (3 * (k : Int) + 3))) none).run Tryd.prog W = .ok (.string (l.extract (3 * k) (3 * k + 3))) W := fun W => by
        rw [run_slice_string _ _ _ _ _ _ _ Tryd.underlying9 (by omega) (by omega) (by omega)]
        have e1 : (3 * (k : Int)).toNat = 3 * k := by omega
        have e2 : (3 * (k : Int) + 3).toNat = 3 * k + 3 := by omega
        rw [e1, e2]
      have HF := Lib.hid (fun (h : ((l.extract (3 * k) (3 * k + 3)).toList == s.toList) = true) => inD_some hlt h)
      have HS := Lib.hid (fun (h : ((l.extract (3 * k) (3 * k + 3)).toList == s.toList) = false) (n : Nat) (hn : n < k + 1) => show ((l.extract (3 * n) (3 * n + 3)).toList == s.toList) = false from by
        by_cases e : n = k
        · rw [e]; exact h
        · exact HN.out n (by omega))
      generalize l.extract (3 * k) (3 * k + 3) = N at *
      cases hb : (N.toList == s.toList)
      · go_wp2
        go_roundw
        case rel => exact ⟨k + 1, by omega, by go_num, Lib.hid (fun n hn => HS.out hb n hn), trivial⟩
        case measure => simp [intOf]; omega
      · go_wp2
        go_ret
        exact ⟨ret_boolT (HF.out hb).symm, rfl⟩
    · have hd : decide (3 * (k : Int) + 3 ≤ (l.size : Int)) = false := decide_eq_false (by omega)
      have HH := Lib.hid (inD_none (s := s) (l := l) (fun n h => HN.out n (by omega)))
      go_wp2
      go_ret
      exact ⟨ret_boolT HH.out.symm, rfl⟩
end Go.Proofs.YtcplegelppfdeaaDoor
