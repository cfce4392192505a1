/-
  Which row a name has in the document's table.
-/
import Derived.Test.YtpjpoopgafcedaaGreatDoorTab
set_option linter.unusedSimpArgs false
set_option linter.unusedVariables false
namespace Go.Proofs.YtpjpoopgafcedaaGreatDoor
open Go.RowKit Go.PlainAid

/-- The first row of a name. -/
noncomputable def rowO (s : ByteArray) : Option Nat := (List.range 56).find? fun r => (nameD r).toList == s.toList
noncomputable def rowD (s : ByteArray) : Int := match rowO s with | some r => (r : Int) | none => -1
theorem rowD_some {s : ByteArray} {k : Nat} (hk : k < 56) (h : ((nameD k).toList == s.toList) = true) (hn : ∀ n, n < k → ((nameD n).toList == s.toList) = false) : rowD s = k := by
  have : rowO s = some k := by
    unfold rowO
    rw [List.find?_range_eq_some]
    exact ⟨h, List.mem_range.2 hk, fun n hlt => by rw [hn n hlt]; rfl⟩
  unfold rowD
  rw [this]
theorem rowD_none {s : ByteArray} (hn : ∀ n, n < 56 → ((nameD n).toList == s.toList) = false) : rowD s = -1 := by
  have : rowO s = none := by
    unfold rowO
    rw [List.find?_range_eq_none]
    intro n hlt
    rw [hn n hlt]; rfl
  unfold rowD
  rw [this]

set_option maxRecDepth 100000 in
set_option maxHeartbeats 1000000 in
theorem row_c (s : ByteArray) (w : World) : Calls Tryz.prog 21 #[.string s] w fun e w' => e = .returned (.int .i64 (rowD s)) ∧ Below w.heap.size w w' := by
  go_enter Tryz.func21, Tryz.ntmps21
  go_wp2
  go_loopw [3] (fun i wr => ∃ k : Nat, k ≤ 56 ∧ i = .int .i64 k ∧ Hid (∀ n, n < k → ((nameD n).toList == s.toList) = false) ∧ Below w.heap.size w wr) (fun i _ => 56 - (intOf i).toNat)
  case atStart => exact ⟨0, by omega, rfl, Lib.hid (fun n h => by omega), Below.refl _ _⟩
  case round =>
    obtain ⟨k, hk, rfl, HN, hB⟩ := hrel
    by_cases hlt : k < 56
    · have hd56 : decide ((k : Int) < 56) = true := decide_eq_true (by omega)
      have HA := Lib.hid (fun u => name_c k hlt u)
      have HF := Lib.hid (fun (h : ((nameD k).toList == s.toList) = true) => rowD_some hlt h HN.out)
      have HS := Lib.hid (fun (h : ((nameD k).toList == s.toList) = false) (n : Nat) (hn : n < k + 1) => show ((nameD n).toList == s.toList) = false from by
        by_cases e : n = k
        · rw [e]; exact h
        · exact HN.out n (by omega))
      cases hb : ((nameD k).toList == s.toList)
      · go_wp2_with (go_at_call 36; (with_reducible refine (HA.out _).mono ?_); rintro _ w1 ⟨rfl, hb1⟩)
        go_roundw
        case rel => exact ⟨k + 1, by omega, by go_num, Lib.hid (fun n hn => HS.out hb n hn), hB.trans (hb1.mono hB.size)⟩
        case measure => simp [intOf]; omega
      · go_wp2_with (go_at_call 36; (with_reducible refine (HA.out _).mono ?_); rintro _ w1 ⟨rfl, hb1⟩)
        go_ret
        exact ⟨ret_i64 (HF.out hb).symm, hB.trans (hb1.mono hB.size)⟩
    · have hk8 : k = 56 := by omega
      subst hk8
      have HH := Lib.hid (rowD_none (s := s) (fun n h => HN.out n h))
      go_wp2
      go_ret
      exact ⟨ret_i64 HH.out.symm, hB⟩

end Go.Proofs.YtpjpoopgafcedaaGreatDoor
