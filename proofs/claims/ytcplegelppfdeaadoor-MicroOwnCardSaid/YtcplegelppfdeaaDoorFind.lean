/-
  Which row and mode a byte has in the document's table, which row a name.
-/
import Derived.Test.YtcplegelppfdeaaDoorTab
set_option linter.unusedSimpArgs false
set_option linter.unusedVariables false
namespace Go.Proofs.YtcplegelppfdeaaDoor
open Go.RowKit Go.PlainAid

/-- The first place of the table, row by row, at which a byte stands. -/
noncomputable def placeD (b : Int) : Option Nat := (List.range 728).find? fun n => atD (n / 13) (n % 13) == b
noncomputable def findR (b : Int) : Int := match placeD b with | some n => ((n / 13 : Nat) : Int) | none => -1
noncomputable def findM (b : Int) : Int := match placeD b with | some n => ((n % 13 : Nat) : Int) | none => -1
theorem placeD_some {b : Int} {k j : Nat} (hk : k < 56) (hj : j < 13) (h : (atD k j == b) = true) (hn : ∀ n, n < 13 * k + j → (atD (n / 13) (n % 13) == b) = false) : findR b = k ∧ findM b = j := by
  have e1 : (13 * k + j) / 13 = k := by omega
  have e2 : (13 * k + j) % 13 = j := by omega
  have : placeD b = some (13 * k + j) := by
    unfold placeD
    rw [List.find?_range_eq_some]
    refine ⟨by rw [e1, e2]; exact h, List.mem_range.2 (by omega), fun n hlt => by rw [hn n hlt]; rfl⟩
  unfold findR findM
  rw [this]
  show (((13 * k + j) / 13 : Nat) : Int) = k ∧ (((13 * k + j) % 13 : Nat) : Int) = j
  rw [e1, e2]
  exact ⟨rfl, rfl⟩
theorem placeD_none {b : Int} (hn : ∀ n, n < 728 → (atD (n / 13) (n % 13) == b) = false) : findR b = -1 ∧ findM b = -1 := by
  have : placeD b = none := by
    unfold placeD
    rw [List.find?_range_eq_none]
    intro n hlt
    rw [hn n hlt]; rfl
  unfold findR findM
  rw [this]
  exact ⟨rfl, rfl⟩

set_option maxRecDepth 100000 in
set_option maxHeartbeats 1000000 in
theorem ofind_c (b : Int) (w : World) : Calls Tryd.prog 9 #[.int .i64 b] w fun e w' => e = .returned (.tuple #[.int .i64 (findR b), .int .i64 (findM b)]) ∧ Below w.heap.size w w' := by
  go_enter Tryd.func9, Tryd.ntmps9
  go_wp2
  go_loopw [4] (fun i wr => ∃ k : Nat, k ≤ 56 ∧ i = .int .i64 k ∧ Hid (∀ n, n < 13 * k → (atD (n / 13) (n % 13) == b) = false) ∧ Below w.heap.size w wr) (fun i _ => 56 - (intOf i).toNat)
  case atStart => exact ⟨0, by omega, rfl, Lib.hid (fun n h => by omega), Below.refl _ _⟩
  case round =>
    obtain ⟨k, hk, rfl, HN, hB⟩ := hrel
    by_cases hlt : k < 56
    · have hd56 : decide ((k : Int) < 56) = true := decide_eq_true (by omega)
      go_wp2
      go_loopw [5] (fun i wi => ∃ j : Nat, j ≤ 13 ∧ i = .int .i64 j ∧ Hid (∀ n, n < 13 * k + j → (atD (n / 13) (n % 13) == b) = false) ∧ Below w.heap.size w wi) (fun i _ => 13 - (intOf i).toNat)
      case atStart => exact ⟨0, by omega, rfl, HN, hB⟩
      case round =>
        obtain ⟨j, hj, rfl, HN, hB⟩ := hrel
        by_cases hlj : j < 13
        · have HA := Lib.hid (fun u => at_c k j hlt hlj u)
          have HF := Lib.hid (fun (h : (atD k j == b) = true) => placeD_some hlt hlj h HN.out)
          have HS := Lib.hid (fun (h : (atD k j == b) = false) (n : Nat) (hn : n < 13 * k + (j + 1)) => show (atD (n / 13) (n % 13) == b) = false from by
            by_cases e : n = 13 * k + j
            · have e1 : n / 13 = k := by omega
              have e2 : n % 13 = j := by omega
              rw [e1, e2]; exact h
            · exact HN.out n (by omega))
          cases hb : (atD k j == b)
          · go_wp2_with (go_at_call 20; (with_reducible refine (HA.out _).mono ?_); rintro _ w1 ⟨rfl, hb1⟩)
            go_roundw
            case rel => exact ⟨j + 1, by omega, by go_num, Lib.hid (fun n hn => HS.out hb n hn), hB.trans (hb1.mono hB.size)⟩
            case measure => simp [intOf]; omega
          · go_wp2_with (go_at_call 20; (with_reducible refine (HA.out _).mono ?_); rintro _ w1 ⟨rfl, hb1⟩)
            refine bodyPost_ret (v := .tuple #[.int .i64 k, .int .i64 j]) (by simp [results, Tryd.results9, go_sem] <;> first | done | rfl) rfl ⟨by rw [(HF.out hb).1, (HF.out hb).2], hB.trans (hb1.mono hB.size)⟩
        · have hj13 : j = 13 := by omega
          subst hj13
          go_wp2
          go_roundw
          case rel => exact ⟨k + 1, by omega, by go_num, Lib.hid (fun n hn => HN.out n (by omega)), hB⟩
          case measure => simp [intOf]; omega
    · have hk8 : k = 56 := by omega
      subst hk8
      have H := placeD_none (b := b) (fun n h => HN.out n h)
      have HH := Lib.hid H
      clear H
      go_wp2
      refine bodyPost_ret (v := .tuple #[.int .i64 (-1), .int .i64 (-1)]) (by simp [results, Tryd.results9, go_sem] <;> first | done | rfl) rfl ⟨by rw [HH.out.1, HH.out.2], hB⟩
end Go.Proofs.YtcplegelppfdeaaDoor
