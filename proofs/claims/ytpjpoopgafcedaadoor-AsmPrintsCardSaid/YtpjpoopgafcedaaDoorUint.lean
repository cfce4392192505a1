/-
  strconv.ParseUint at base 16 and 16 bits, of at most four letters: the library's own text walked.
-/
import Derived.Test.YtpjpoopgafcedaaDoorWrit
import Derived.Test.YtpjpoopgafcedaaDoorHeld
import Derived.Test.YtpjpoopgafcedaaDoorShelf
import Derived.Test.YtpjpoopgafcedaaDoorArs
import Derived.Lib.Bytes
set_option linter.unusedSimpArgs false
set_option linter.unusedVariables false
namespace Go.Proofs.YtpjpoopgafcedaaDoor
open Go.RowKit Go.PlainAid

def loI (c : Int) : Int := bits .or .u8 c 32
theorem lo_ways_fin : ∀ c : Fin 256, (48 ≤ (c.val : Int) ∧ (c.val : Int) ≤ 57 ∧ digH c.val = (c.val : Int) - 48) ∨ (¬ (48 ≤ (c.val : Int) ∧ (c.val : Int) ≤ 57) ∧ 97 ≤ loI c.val ∧ loI c.val ≤ 102 ∧ digH c.val = loI c.val - 87 ∧ (c.val : Int) ≠ 95) ∨
    (¬ (48 ≤ (c.val : Int) ∧ (c.val : Int) ≤ 57) ∧ digH c.val = -1 ∧ (loI c.val < 97 ∨ 102 < loI c.val) ∧ 0 ≤ loI c.val ∧ loI c.val ≤ 255) := by decide +kernel
theorem lo_ways (c : Int) (h0 : 0 ≤ c) (h1 : c < 256) : (48 ≤ c ∧ c ≤ 57 ∧ digH c = c - 48) ∨ (¬ (48 ≤ c ∧ c ≤ 57) ∧ 97 ≤ loI c ∧ loI c ≤ 102 ∧ digH c = loI c - 87 ∧ c ≠ 95) ∨
    (¬ (48 ≤ c ∧ c ≤ 57) ∧ digH c = -1 ∧ (loI c < 97 ∨ 102 < loI c) ∧ 0 ≤ loI c ∧ loI c ≤ 255) := by
  obtain ⟨n, rfl⟩ : ∃ n : Nat, c = n := ⟨c.toNat, by omega⟩
  exact lo_ways_fin ⟨n, by omega⟩
theorem lower_c (c : Int) (w : World) : Calls Tryd.prog 83 #[.int .u8 c] w fun e w' => e = .returned (.int .u8 (loI c)) ∧ w = w' := by
  refine (Tryd.internal_strconv_lower c w).mono ?_
  rintro e w' ⟨rfl, rfl⟩
  exact ⟨rfl, rfl⟩
/-- How the inner call ends: the number, or the error of a wrong form. -/
def uintT (v : Int) : Value := if v < 0 then .tuple #[.int .u64 0, .iface 129 (.int .i64 2)] else .tuple #[.int .u64 v, .nilIface]
set_option maxRecDepth 100000 in
set_option maxHeartbeats 4000000 in
theorem uint_c (l : List UInt8) (hne : l ≠ []) (hl : l.length ≤ 4) (w : World) :
    Calls Tryd.prog 67 #[.string (txB l), .int .i64 16, .int .i64 16] w fun e w' => e = .returned (uintT (numL l 0)) ∧ Below w.heap.size w w' := by
  obtain ⟨R, hR⟩ : ∃ R, numL l 0 = R := ⟨_, rfl⟩
  rw [hR]
  have HR := Lib.hid hR
  clear hR
  have hz := txB_size l
  have hpos : 0 < l.length := List.length_pos_iff.2 hne
  have hemp : (txB l).toList.isEmpty = false := by rw [txB_toList]; cases l with | nil => exact absurd rfl hne | cons => rfl
  have hcv := Lib.run_convert_string_bytes (P := Tryd.prog) w 9 38 5 (txB l) (u := .string) Tryd.underlying9 Tryd.underlying38 Tryd.underlying5
  have hB := Lib.hid (fun j hj => Lib.bytesWorld_cell w 5 (txB l) j hj)
  have hbel := Lib.hid (Lib.bytesWorld_below w 5 (txB l))
  have hmv : IntKind.u64.wrap (IntKind.u64.wrap 65536 - 1) = 65535 := by
    rw [IntKind.wrap_u64, IntKind.wrap_u64]
    decide
  have HX := Lib.hid (fun k h => bt_txB l k h)
  obtain ⟨W1, hW1⟩ : ∃ W1, W1 = Lib.bytesWorld w 5 (txB l) := ⟨_, rfl⟩
  rw [← hW1] at hcv hB hbel
  clear hW1
  have HL := Lib.hid (fun (k : Nat) (h : k < l.length) => show (txB l).data.toList.getD k 0 = l[k] from by simp [h])
  generalize hS : txB l = S at *
  rw [hz] at *
  go_enter Tryd.func67, Tryd.ntmps67
  go_wp2
  go_loopw [12, 13, 101] (fun vu vn vi wr => ∃ (k : Nat) (n J : Int), vu = .bool false ∧ vn = .int .u64 n ∧ vi = .int .i64 J ∧ k ≤ l.length ∧ Hid (J = k) ∧ Hid (numL (l.drop k) n = R ∧ 0 ≤ n ∧ n < 16 ^ k) ∧ W1 = wr) (fun _ _ vi _ => l.length - (intOf vi).toNat)
  case atStart => exact ⟨0, 0, 0, rfl, rfl, rfl, by omega, Lib.hid rfl, Lib.hid ⟨by simpa using HR.out, by omega, by decide⟩, rfl⟩
  case round =>
    obtain ⟨k, n, J, rfl, rfl, rfl, hk, HJ, HN, rfl⟩ := hrel
    have hJ := HJ.out
    by_cases hlt : k < l.length
    · have hd : decide (J < (l.length : Int)) = true := decide_eq_true (by omega)
      have hJ0 : 0 ≤ J ∧ J < (l.length : Int) := by omega
      have hcell := hB.out k (by omega)
      rw [HL.out k hlt] at hcell
      have hto : J.toNat = k := by omega
      obtain ⟨N1, N2, N3⟩ := HN.out
      have hdrop : l.drop k = l[k] :: l.drop (k + 1) := List.drop_eq_getElem_cons hlt
      rw [hdrop] at N1
      unfold numL at N1
      have hn4 : n < 4096 := by
        have : (16 : Int) ^ k ≤ 16 ^ 3 := by
          rcases (show k = 0 ∨ k = 1 ∨ k = 2 ∨ k = 3 by omega) with rfl | rfl | rfl | rfl <;> decide
        omega
      have hp : (16 : Int) ^ (k + 1) = 16 ^ k * 16 := by rw [Int.pow_succ]
      have hc0 : (0 : Int) ≤ (l[k].toNat : Int) := by omega
      have hc1 : ((l[k].toNat : Nat) : Int) < 256 := by have := l[k].toNat_lt; omega
      generalize ((l[k].toNat : Nat) : Int) = c at *
      rw [← hto] at hcell
      have HC := Lib.hid (fun w => lower_c c w)
      have hcut : ¬ (1152921504606846976 : Int) ≤ n := by omega
      have w1 : IntKind.u64.wrap (n * 16) = n * 16 := by rw [IntKind.wrap_u64]; omega
      rcases lo_ways c hc0 hc1 with ⟨a1, a2, a3⟩ | ⟨a1, a2, a3, a4, a5⟩ | ⟨a1, a2, a3, a4, a5⟩
      · have w2 : IntKind.u8.wrap (c - 48) = c - 48 := by rw [IntKind.wrap_u8]; omega
        have w3 : IntKind.u64.wrap (c - 48) = c - 48 := by rw [IntKind.wrap_u64]; omega
        have w4 : IntKind.u64.wrap (n * 16 + (c - 48)) = n * 16 + (c - 48) := by rw [IntKind.wrap_u64]; omega
        have e1 : (c == 95) = false := by rw [beq_eq_false_iff_ne]; omega
        have e2 : decide (16 ≤ c - 48) = false := decide_eq_false (by omega)
        have e3 : decide (n * 16 + (c - 48) < n * 16) = false := decide_eq_false (by omega)
        have e4 : decide (65535 < n * 16 + (c - 48)) = false := decide_eq_false (by omega)
        have HN2 := Lib.hid (show numL (l.drop (k + 1)) (n * 16 + (c - 48)) = R ∧ 0 ≤ n * 16 + (c - 48) ∧ n * 16 + (c - 48) < 16 ^ (k + 1) from by
          rw [if_neg (by omega), a3, show 16 * n + (c - 48) = n * 16 + (c - 48) by omega] at N1
          exact ⟨N1, by omega, by rw [hp]; omega⟩)
        clear N1 N2 N3 hdrop hp hn4 HN a3 hJ hto
        go_wp2_with (go_at_call 83; (with_reducible refine (HC.out _).mono ?_); rintro _ _ ⟨rfl, rfl⟩)
        go_roundw
        case rel => exact ⟨k + 1, n * 16 + (c - 48), J + 1, rfl, rfl, rfl, by omega, Lib.hid (by have := HJ.out; omega), HN2, trivial⟩
        case measure => have := HJ.out; simp [intOf]; omega
      · generalize loI c = LO at *
        have w2 : IntKind.u8.wrap (LO - 97) = LO - 97 := by rw [IntKind.wrap_u8]; omega
        have w2' : IntKind.u8.wrap (LO - 97 + 10) = LO - 97 + 10 := by rw [IntKind.wrap_u8]; omega
        have w3 : IntKind.u64.wrap (LO - 97 + 10) = LO - 97 + 10 := by rw [IntKind.wrap_u64]; omega
        have w4 : IntKind.u64.wrap (n * 16 + (LO - 97 + 10)) = n * 16 + (LO - 97 + 10) := by rw [IntKind.wrap_u64]; omega
        have e0 : decide (97 ≤ LO) = true := decide_eq_true (by omega)
        have e0' : decide (LO ≤ 122) = true := decide_eq_true (by omega)
        have e1 : (c == 95) = false := by rw [beq_eq_false_iff_ne]; omega
        have e2 : decide (16 ≤ LO - 97 + 10) = false := decide_eq_false (by omega)
        have e3 : decide (n * 16 + (LO - 97 + 10) < n * 16) = false := decide_eq_false (by omega)
        have e4 : decide (65535 < n * 16 + (LO - 97 + 10)) = false := decide_eq_false (by omega)
        have HN2 := Lib.hid (show numL (l.drop (k + 1)) (n * 16 + (LO - 97 + 10)) = R ∧ 0 ≤ n * 16 + (LO - 97 + 10) ∧ n * 16 + (LO - 97 + 10) < 16 ^ (k + 1) from by
          rw [if_neg (by omega), a4, show 16 * n + (LO - 87) = n * 16 + (LO - 97 + 10) by omega] at N1
          exact ⟨N1, by omega, by rw [hp]; omega⟩)
        have hcc : (decide (48 ≤ c) = false) ∨ (decide (48 ≤ c) = true ∧ decide (c ≤ 57) = false) := by
          by_cases h : 48 ≤ c
          · exact .inr ⟨decide_eq_true h, decide_eq_false (by omega)⟩
          · exact .inl (decide_eq_false h)
        clear N1 N2 N3 hdrop hp hn4 HN a1 a2 a3 a4 a5 hJ hto
        rcases hcc with f1 | ⟨f1, f2⟩
        all_goals
          go_wp2_with (go_at_call 83; (with_reducible refine (HC.out _).mono ?_); rintro _ _ ⟨rfl, rfl⟩)
          go_roundw
          case rel => exact ⟨k + 1, n * 16 + (LO - 97 + 10), J + 1, rfl, rfl, rfl, by omega, Lib.hid (by have := HJ.out; omega), HN2, trivial⟩
          case measure => have := HJ.out; simp [intOf]; omega
      · generalize loI c = LO at *
        have HRV := Lib.hid (show R = -1 from by
          rw [if_pos (by omega)] at N1
          exact N1.symm)
        have HV := Lib.hid (show uintT R = .tuple #[.int .u64 0, .iface 129 (.int .i64 2)] from by rw [HRV.out]; rfl)
        have hcc : (decide (48 ≤ c) = false) ∨ (decide (48 ≤ c) = true ∧ decide (c ≤ 57) = false) := by
          by_cases h : 48 ≤ c
          · exact .inr ⟨decide_eq_true h, decide_eq_false (by omega)⟩
          · exact .inl (decide_eq_false h)
        have hlo : (decide (97 ≤ LO) = false) ∨ (decide (97 ≤ LO) = true ∧ decide (LO ≤ 122) = false) ∨ (decide (97 ≤ LO) = true ∧ decide (LO ≤ 122) = true ∧ decide (16 ≤ LO - 97 + 10) = true ∧ IntKind.u8.wrap (LO - 97) = LO - 97 ∧ IntKind.u8.wrap (LO - 97 + 10) = LO - 97 + 10) := by
          by_cases h1 : 97 ≤ LO
          · by_cases h2 : LO ≤ 122
            · exact .inr (.inr ⟨decide_eq_true h1, decide_eq_true h2, decide_eq_true (by omega), by rw [IntKind.wrap_u8]; omega, by rw [IntKind.wrap_u8]; omega⟩)
            · exact .inr (.inl ⟨decide_eq_true h1, decide_eq_false h2⟩)
          · exact .inl (decide_eq_false h1)
        have h95 : ∃ q, (c == 95) = q := ⟨_, rfl⟩
        obtain ⟨q95, h95⟩ := h95
        clear N1 N2 N3 hdrop hp hn4 HN a1 a2 a3 a4 a5 hJ hto
        rcases hcc with f1 | ⟨f1, f2⟩ <;> rcases hlo with g1 | ⟨g1, g2⟩ | ⟨g1, g2, g3, g4, g5⟩ <;> cases q95
        all_goals
          go_wp2_with (go_at_call 83; (with_reducible refine (HC.out _).mono ?_); rintro _ _ ⟨rfl, rfl⟩)
          refine bodyPost_ret (v := .tuple #[.int .u64 0, .iface 129 (.int .i64 2)]) (by simp [results, Tryd.results67, go_sem]) rfl ⟨by rw [HV.out], hbel.out⟩
    · have hk8 : k = l.length := by omega
      have hd : decide (J < (l.length : Int)) = false := decide_eq_false (by omega)
      have HRV := Lib.hid (show R = n ∧ 0 ≤ n from by
        have := HN.out
        rw [hk8, List.drop_length] at this
        exact ⟨this.1.symm, this.2.1⟩)
      have HV := Lib.hid (show uintT R = .tuple #[.int .u64 n, .nilIface] from by unfold uintT; rw [HRV.out.1, if_neg (by have := HRV.out.2; omega)])
      clear HN hJ
      go_wp2
      refine bodyPost_ret (v := .tuple #[.int .u64 n, .nilIface]) (by simp [results, Tryd.results67, go_sem]) rfl ⟨by rw [HV.out], hbel.out⟩
end Go.Proofs.YtpjpoopgafcedaaDoor
