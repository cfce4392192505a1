/-
  strconv.ParseUint at base 16 and 16 bits, of at most four letters: the library's own text walked.
  strconv.ParseUint, the public one: a number, or an error that is not nil.
  Layer 5, the program: the number of a text behind a name, in one way of writing.
-/
import Derived.Test.YtpjpoopgafcedaaGreatDoorWrit
import Derived.Test.YtpjpoopgafcedaaGreatDoorHeld
import Derived.Test.YtpjpoopgafcedaaGreatDoorShelf
import Derived.Test.YtpjpoopgafcedaaGreatDoorPrintl
import Derived.Lib.Bytes
set_option linter.unusedSimpArgs false
set_option linter.unusedVariables false
namespace Go.Proofs.YtpjpoopgafcedaaGreatDoor
open Go.RowKit Go.PlainAid

def loI (c : Int) : Int := bits .or .u8 c 32
theorem lo_ways_fin : ∀ c : Fin 256, (48 ≤ (c.val : Int) ∧ (c.val : Int) ≤ 57 ∧ digH c.val = (c.val : Int) - 48) ∨ (¬ (48 ≤ (c.val : Int) ∧ (c.val : Int) ≤ 57) ∧ 97 ≤ loI c.val ∧ loI c.val ≤ 102 ∧ digH c.val = loI c.val - 87 ∧ (c.val : Int) ≠ 95) ∨
    (¬ (48 ≤ (c.val : Int) ∧ (c.val : Int) ≤ 57) ∧ digH c.val = -1 ∧ (loI c.val < 97 ∨ 102 < loI c.val) ∧ 0 ≤ loI c.val ∧ loI c.val ≤ 255) := by decide +kernel
theorem lo_ways (c : Int) (h0 : 0 ≤ c) (h1 : c < 256) : (48 ≤ c ∧ c ≤ 57 ∧ digH c = c - 48) ∨ (¬ (48 ≤ c ∧ c ≤ 57) ∧ 97 ≤ loI c ∧ loI c ≤ 102 ∧ digH c = loI c - 87 ∧ c ≠ 95) ∨
    (¬ (48 ≤ c ∧ c ≤ 57) ∧ digH c = -1 ∧ (loI c < 97 ∨ 102 < loI c) ∧ 0 ≤ loI c ∧ loI c ≤ 255) := by
  obtain ⟨n, rfl⟩ : ∃ n : Nat, c = n := ⟨c.toNat, by omega⟩
  exact lo_ways_fin ⟨n, by omega⟩
theorem lower_c (c : Int) (w : World) : Calls Tryz.prog 87 #[.int .u8 c] w fun e w' => e = .returned (.int .u8 (loI c)) ∧ w = w' := by
  refine (Tryz.internal_strconv_lower c w).mono ?_
  rintro e w' ⟨rfl, rfl⟩
  exact ⟨rfl, rfl⟩
/-- How the inner call ends: the number, or the error of a wrong form. -/
def uintT (v : Int) : Value := if v < 0 then .tuple #[.int .u64 0, .iface 130 (.int .i64 2)] else .tuple #[.int .u64 v, .nilIface]
set_option maxRecDepth 100000 in
set_option maxHeartbeats 4000000 in
theorem uint_c (l : List UInt8) (hne : l ≠ []) (hl : l.length ≤ 4) (w : World) :
    Calls Tryz.prog 74 #[.string (txB l), .int .i64 16, .int .i64 16] w fun e w' => e = .returned (uintT (numL l 0)) ∧ Below w.heap.size w w' := by
  obtain ⟨R, hR⟩ : ∃ R, numL l 0 = R := ⟨_, rfl⟩
  rw [hR]
  have HR := Lib.hid hR
  clear hR
  have hz := txB_size l
  have hpos : 0 < l.length := List.length_pos_iff.2 hne
  have hemp : (txB l).toList.isEmpty = false := by rw [txB_toList]; cases l with | nil => exact absurd rfl hne | cons => rfl
  have hcv := Lib.run_convert_string_bytes (P := Tryz.prog) w 9 23 5 (txB l) (u := .string) Tryz.underlying9 Tryz.underlying23 Tryz.underlying5
  have hB := Lib.hid (fun j hj => Lib.bytesWorld_cell w 5 (txB l) j hj)
  have hbel := Lib.hid (Lib.bytesWorld_below w 5 (txB l))
  have hmv : IntKind.u64.wrap (IntKind.u64.wrap 65536 - 1) = 65535 := by
    rw [IntKind.wrap_u64, IntKind.wrap_u64]
    decide
  have HX := Lib.hid (fun k h => bt_txB l k h)
  obtain ⟨W1, hW1⟩ : ∃ W1, W1 = Lib.bytesWorld w 5 (txB l) := ⟨_, rfl⟩
  rw [← hW1] at hcv hB hbel
  clear hW1
  have HL := Lib.hid (fun (k : Nat) (h : k < l.length) => show (txB l).data.toList.getD k 0 = l[k] from by simp [h])
  generalize hS : txB l = S at *
  rw [hz] at *
  go_enter Tryz.func74, Tryz.ntmps74
  go_wp2
  go_loopw [12, 13, 101] (fun vu vn vi wr => ∃ (k : Nat) (n J : Int), vu = .bool false ∧ vn = .int .u64 n ∧ vi = .int .i64 J ∧ k ≤ l.length ∧ Hid (J = k) ∧ Hid (numL (l.drop k) n = R ∧ 0 ≤ n ∧ n < 16 ^ k) ∧ W1 = wr) (fun _ _ vi _ => l.length - (intOf vi).toNat)
  case atStart => exact ⟨0, 0, 0, rfl, rfl, rfl, by omega, Lib.hid rfl, Lib.hid ⟨by simpa using HR.out, by omega, by decide⟩, rfl⟩
  case round =>
    obtain ⟨k, n, J, rfl, rfl, rfl, hk, HJ, HN, rfl⟩ := hrel
    have hJ := HJ.out
    by_cases hlt : k < l.length
    · have hd : decide (J < (l.length : Int)) = true := decide_eq_true (by omega)
      have hJ0 : 0 ≤ J ∧ J < (l.length : Int) := by omega
      have hcell := hB.out k (by omega)
      rw [HL.out k hlt] at hcell
      have hto : J.toNat = k := by omega
      obtain ⟨N1, N2, N3⟩ := HN.out
      have hdrop : l.drop k = l[k] :: l.drop (k + 1) := List.drop_eq_getElem_cons hlt
      rw [hdrop] at N1
      unfold numL at N1
      have hn4 : n < 4096 := by
        have : (16 : Int) ^ k ≤ 16 ^ 3 := by
          rcases (show k = 0 ∨ k = 1 ∨ k = 2 ∨ k = 3 by omega) with rfl | rfl | rfl | rfl <;> decide
        omega
      have hp : (16 : Int) ^ (k + 1) = 16 ^ k * 16 := by rw [Int.pow_succ]
      have hc0 : (0 : Int) ≤ (l[k].toNat : Int) := by omega
      have hc1 : ((l[k].toNat : Nat) : Int) < 256 := by have := l[k].toNat_lt; omega
      generalize ((l[k].toNat : Nat) : Int) = c at *
      rw [← hto] at hcell
      have HC := Lib.hid (fun w => lower_c c w)
      have hcut : ¬ (1152921504606846976 : Int) ≤ n := by omega
      have w1 : IntKind.u64.wrap (n * 16) = n * 16 := by rw [IntKind.wrap_u64]; omega
      rcases lo_ways c hc0 hc1 with ⟨a1, a2, a3⟩ | ⟨a1, a2, a3, a4, a5⟩ | ⟨a1, a2, a3, a4, a5⟩
      · have w2 : IntKind.u8.wrap (c - 48) = c - 48 := by rw [IntKind.wrap_u8]; omega
        have w3 : IntKind.u64.wrap (c - 48) = c - 48 := by rw [IntKind.wrap_u64]; omega
        have w4 : IntKind.u64.wrap (n * 16 + (c - 48)) = n * 16 + (c - 48) := by rw [IntKind.wrap_u64]; omega
        have e1 : (c == 95) = false := by rw [beq_eq_false_iff_ne]; omega
        have e2 : decide (16 ≤ c - 48) = false := decide_eq_false (by omega)
        have e3 : decide (n * 16 + (c - 48) < n * 16) = false := decide_eq_false (by omega)
        have e4 : decide (65535 < n * 16 + (c - 48)) = false := decide_eq_false (by omega)
        have HN2 := Lib.hid (show numL (l.drop (k + 1)) (n * 16 + (c - 48)) = R ∧ 0 ≤ n * 16 + (c - 48) ∧ n * 16 + (c - 48) < 16 ^ (k + 1) from by
          rw [if_neg (by omega), a3, show 16 * n + (c - 48) = n * 16 + (c - 48) by omega] at N1
          exact ⟨N1, by omega, by rw [hp]; omega⟩)
        clear N1 N2 N3 hdrop hp hn4 HN a3 hJ hto
        go_wp2_with (go_at_call 87; (with_reducible refine (HC.out _).mono ?_); rintro _ _ ⟨rfl, rfl⟩)
        go_roundw
        case rel => exact ⟨k + 1, n * 16 + (c - 48), J + 1, rfl, rfl, rfl, by omega, Lib.hid (by have := HJ.out; omega), HN2, trivial⟩
        case measure => have := HJ.out; simp [intOf]; omega
      · generalize loI c = LO at *
        have w2 : IntKind.u8.wrap (LO - 97) = LO - 97 := by rw [IntKind.wrap_u8]; omega
        have w2' : IntKind.u8.wrap (LO - 97 + 10) = LO - 97 + 10 := by rw [IntKind.wrap_u8]; omega
        have w3 : IntKind.u64.wrap (LO - 97 + 10) = LO - 97 + 10 := by rw [IntKind.wrap_u64]; omega
        have w4 : IntKind.u64.wrap (n * 16 + (LO - 97 + 10)) = n * 16 + (LO - 97 + 10) := by rw [IntKind.wrap_u64]; omega
        have e0 : decide (97 ≤ LO) = true := decide_eq_true (by omega)
        have e0' : decide (LO ≤ 122) = true := decide_eq_true (by omega)
        have e1 : (c == 95) = false := by rw [beq_eq_false_iff_ne]; omega
        have e2 : decide (16 ≤ LO - 97 + 10) = false := decide_eq_false (by omega)
        have e3 : decide (n * 16 + (LO - 97 + 10) < n * 16) = false := decide_eq_false (by omega)
        have e4 : decide (65535 < n * 16 + (LO - 97 + 10)) = false := decide_eq_false (by omega)
        have HN2 := Lib.hid (show numL (l.drop (k + 1)) (n * 16 + (LO - 97 + 10)) = R ∧ 0 ≤ n * 16 + (LO - 97 + 10) ∧ n * 16 + (LO - 97 + 10) < 16 ^ (k + 1) from by
          rw [if_neg (by omega), a4, show 16 * n + (LO - 87) = n * 16 + (LO - 97 + 10) by omega] at N1
          exact ⟨N1, by omega, by rw [hp]; omega⟩)
        have hcc : (decide (48 ≤ c) = false) ∨ (decide (48 ≤ c) = true ∧ decide (c ≤ 57) = false) := by
          by_cases h : 48 ≤ c
          · exact .inr ⟨decide_eq_true h, decide_eq_false (by omega)⟩
          · exact .inl (decide_eq_false h)
        clear N1 N2 N3 hdrop hp hn4 HN a1 a2 a3 a4 a5 hJ hto
        rcases hcc with f1 | ⟨f1, f2⟩
        all_goals
          go_wp2_with (go_at_call 87; (with_reducible refine (HC.out _).mono ?_); rintro _ _ ⟨rfl, rfl⟩)
          go_roundw
          case rel => exact ⟨k + 1, n * 16 + (LO - 97 + 10), J + 1, rfl, rfl, rfl, by omega, Lib.hid (by have := HJ.out; omega), HN2, trivial⟩
          case measure => have := HJ.out; simp [intOf]; omega
      · generalize loI c = LO at *
        have HRV := Lib.hid (show R = -1 from by
          rw [if_pos (by omega)] at N1
          exact N1.symm)
        have HV := Lib.hid (show uintT R = .tuple #[.int .u64 0, .iface 130 (.int .i64 2)] from by rw [HRV.out]; rfl)
        have hcc : (decide (48 ≤ c) = false) ∨ (decide (48 ≤ c) = true ∧ decide (c ≤ 57) = false) := by
          by_cases h : 48 ≤ c
          · exact .inr ⟨decide_eq_true h, decide_eq_false (by omega)⟩
          · exact .inl (decide_eq_false h)
        have hlo : (decide (97 ≤ LO) = false) ∨ (decide (97 ≤ LO) = true ∧ decide (LO ≤ 122) = false) ∨ (decide (97 ≤ LO) = true ∧ decide (LO ≤ 122) = true ∧ decide (16 ≤ LO - 97 + 10) = true ∧ IntKind.u8.wrap (LO - 97) = LO - 97 ∧ IntKind.u8.wrap (LO - 97 + 10) = LO - 97 + 10) := by
          by_cases h1 : 97 ≤ LO
          · by_cases h2 : LO ≤ 122
            · exact .inr (.inr ⟨decide_eq_true h1, decide_eq_true h2, decide_eq_true (by omega), by rw [IntKind.wrap_u8]; omega, by rw [IntKind.wrap_u8]; omega⟩)
            · exact .inr (.inl ⟨decide_eq_true h1, decide_eq_false h2⟩)
          · exact .inl (decide_eq_false h1)
        have h95 : ∃ q, (c == 95) = q := ⟨_, rfl⟩
        obtain ⟨q95, h95⟩ := h95
        clear N1 N2 N3 hdrop hp hn4 HN a1 a2 a3 a4 a5 hJ hto
        rcases hcc with f1 | ⟨f1, f2⟩ <;> rcases hlo with g1 | ⟨g1, g2⟩ | ⟨g1, g2, g3, g4, g5⟩ <;> cases q95
        all_goals
          go_wp2_with (go_at_call 87; (with_reducible refine (HC.out _).mono ?_); rintro _ _ ⟨rfl, rfl⟩)
          refine bodyPost_ret (v := .tuple #[.int .u64 0, .iface 130 (.int .i64 2)]) (by simp [results, Tryz.results74, go_sem]) rfl ⟨by rw [HV.out], hbel.out⟩
    · have hk8 : k = l.length := by omega
      have hd : decide (J < (l.length : Int)) = false := decide_eq_false (by omega)
      have HRV := Lib.hid (show R = n ∧ 0 ≤ n from by
        have := HN.out
        rw [hk8, List.drop_length] at this
        exact ⟨this.1.symm, this.2.1⟩)
      have HV := Lib.hid (show uintT R = .tuple #[.int .u64 n, .nilIface] from by unfold uintT; rw [HRV.out.1, if_neg (by have := HRV.out.2; omega)])
      clear HN hJ
      go_wp2
      refine bodyPost_ret (v := .tuple #[.int .u64 n, .nilIface]) (by simp [results, Tryz.results74, go_sem]) rfl ⟨by rw [HV.out], hbel.out⟩
end Go.Proofs.YtpjpoopgafcedaaGreatDoor
set_option linter.unusedSimpArgs false
set_option linter.unusedVariables false
namespace Go.Proofs.YtpjpoopgafcedaaGreatDoor
open Go.RowKit Go.PlainAid

/-- The library's error of a wrong form lies in its variable. -/
def LaidE (w : World) : Prop := ∃ te pe, w.cell? ⟨6, 0, none⟩ = some (.iface te pe)
theorem LaidE.below {w u : World} (h : LaidE w) (hb : Below w.heap.size w u) : LaidE u := by
  obtain ⟨te, pe, h⟩ := h
  exact ⟨te, pe, kc hb h⟩
set_option maxRecDepth 100000 in
set_option maxHeartbeats 1000000 in
theorem uintp_ok (l : List UInt8) (hne : l ≠ []) (hl : l.length ≤ 4) (hn : 0 ≤ numL l 0) (w : World) :
    Calls Tryz.prog 56 #[.string (txB l), .int .i64 16, .int .i64 16] w fun e w' => e = .returned (.tuple #[.int .u64 (numL l 0), .nilIface]) ∧ Below w.heap.size w w' := by
  have hv : uintT (numL l 0) = .tuple #[.int .u64 (numL l 0), .nilIface] := by unfold uintT; rw [if_neg (by omega)]
  have HU := Lib.hid (fun w => uint_c l hne hl w)
  rw [hv] at HU
  generalize txB l = S at *
  generalize numL l 0 = V at *
  clear hne hl hn hv
  go_enter Tryz.func56, Tryz.ntmps56
  go_wp2_with fail
  ((with_reducible refine (HU.out _).mono ?_); rintro _ u ⟨rfl, hb⟩)
  have hz := hb.size
  (try simp only [World.size_alloc, World.size_setCell, World.size_drew] at hz)
  have hB' : Below w.heap.size w u := by
      refine kb ?_ hb
      go_grown
  clear hb hz
  have hB := hB'; clear hB'
  have hsz := hB.size
  go_wp2
  refine bodyPost_ret (v := .tuple #[.int .u64 V, .nilIface]) (by simp [results, Tryz.results56, go_sem]) rfl ⟨rfl, by go_grown⟩
theorem toerr_c (S : ByteArray) (hz : S.size ≤ 4) (w : World) (hE : LaidE w) : Calls Tryz.prog 75 #[.string ⟨#[80, 97, 114, 115, 101, 85, 105, 110, 116]⟩, .string S, .int .i64 16, .int .i64 16, .iface 130 (.int .i64 2)] w fun e w' => ∃ N, e = .returned (.iface 132 (.pointer (some ⟨N, 0, none⟩))) ∧ Below w.heap.size w w' := by
  obtain ⟨te, pe, h⟩ := hE
  refine (Tryz.strconv_toError_syntax ⟨#[80, 97, 114, 115, 101, 85, 105, 110, 116]⟩ S 16 16 (.iface te pe) w (by omega) h (.inr ⟨te, pe, rfl⟩)).mono ?_
  rintro e w' ⟨N, rfl, _, _, hb⟩
  exact ⟨N, rfl, hb⟩
set_option maxRecDepth 100000 in
set_option maxHeartbeats 1000000 in
theorem uintp_no (l : List UInt8) (hne : l ≠ []) (hl : l.length ≤ 4) (hn : numL l 0 < 0) (w : World) (hE : LaidE w) :
    Calls Tryz.prog 56 #[.string (txB l), .int .i64 16, .int .i64 16] w fun e w' => ∃ N, e = .returned (.tuple #[.int .u64 0, .iface 132 (.pointer (some ⟨N, 0, none⟩))]) ∧ Below w.heap.size w w' := by
  have hv : uintT (numL l 0) = .tuple #[.int .u64 0, .iface 130 (.int .i64 2)] := by unfold uintT; rw [if_pos hn]
  have HU := Lib.hid (fun w => uint_c l hne hl w)
  rw [hv] at HU
  have hz : (txB l).size ≤ 4 := by rw [txB_size]; exact hl
  have HT := Lib.hid (fun w hE => toerr_c (txB l) hz w hE)
  generalize txB l = S at *
  clear hne hl hn hv
  go_enter Tryz.func56, Tryz.ntmps56
  go_wp2_with fail
  ((with_reducible refine (HU.out _).mono ?_); rintro _ u ⟨rfl, hb⟩)
  have hz := hb.size
  (try simp only [World.size_alloc, World.size_setCell, World.size_drew] at hz)
  have hB' : Below w.heap.size w u := by
      refine kb ?_ hb
      go_grown
  clear hb hz
  have hB := hB'; clear hB'
  have hsz := hB.size
  have hE2 := hE.below hB
  go_wp2_with fail
  refine (HT.out _ hE2).mono ?_
  rintro _ u2 ⟨N, rfl, hb⟩
  have hB2 := kb hB hb
  clear hb hB
  go_wp2
  refine bodyPost_ret (v := .tuple #[.int .u64 0, .iface 132 (.pointer (some ⟨N, 0, none⟩))]) (by simp [results, Tryz.results56, go_sem]) rfl ⟨N, rfl, hB2⟩
end Go.Proofs.YtpjpoopgafcedaaGreatDoor
set_option linter.unusedSimpArgs false
set_option linter.unusedVariables false
namespace Go.Proofs.YtpjpoopgafcedaaGreatDoor
open Go.RowKit Go.PlainAid

theorem numL_lt : ∀ (l : List UInt8) (a : Int), 0 ≤ a → numL l a < (a + 1) * 16 ^ l.length ∧ -1 ≤ numL l a
  | [], a, h => by unfold numL; simp; omega
  | c :: r, a, h => by
    unfold numL
    have hd := digH_hi (c.toNat : Int)
    have hp : (0 : Int) < 16 ^ r.length := Int.pow_pos (by omega)
    by_cases hn : digH (c.toNat : Int) < 0
    · rw [if_pos hn]
      refine ⟨?_, by omega⟩
      have : 0 ≤ (a + 1) * 16 ^ (c :: r).length := Int.mul_nonneg (by omega) (Int.le_of_lt (Int.pow_pos (by omega)))
      omega
    · rw [if_neg hn]
      obtain ⟨h1, h2⟩ := numL_lt r (16 * a + digH (c.toNat : Int)) (by omega)
      refine ⟨Int.lt_of_lt_of_le h1 ?_, h2⟩
      rw [List.length_cons, Int.pow_succ]
      calc (16 * a + digH (c.toNat : Int) + 1) * 16 ^ r.length ≤ (16 * (a + 1)) * 16 ^ r.length := Int.mul_le_mul_of_nonneg_right (by omega) (Int.le_of_lt hp)
        _ = (a + 1) * (16 ^ r.length * 16) := by rw [Int.mul_comm 16 (a + 1), Int.mul_assoc, Int.mul_comm 16]
theorem numL_four (l : List UInt8) (h : l.length ≤ 4) : numL l 0 < 65536 := by
  have h1 := (numL_lt l 0 (by omega)).1
  have : (16 : Int) ^ l.length ≤ 16 ^ 4 := by
    rcases (show l.length = 0 ∨ l.length = 1 ∨ l.length = 2 ∨ l.length = 3 ∨ l.length = 4 by omega) with e | e | e | e | e <;> rw [e] <;> decide
  omega
/-- The number of a text, in one way of writing; -1: it is not written so. -/
def parW (b : List UInt8) (d : Nat) (a l : List UInt8) : Int :=
  if (l.length == b.length + d + a.length) && (Lib.hasPrefix l b && Lib.hasSuffix l a) then (if d = 0 then 0 else numL ((l.drop b.length).take d) 0) else -1
theorem hasp_c (l p : List UInt8) (w : World) : Calls Tryz.prog 54 #[.string (txB l), .string (txB p)] w fun e w' => e = .returned (.bool (Lib.hasPrefix l p)) ∧ w = w' := by
  refine (Tryz.strings_HasPrefix (txB l) (txB p) w).mono ?_
  rintro e w' ⟨rfl, rfl⟩
  exact ⟨by simp, rfl⟩
theorem hass_c (l p : List UInt8) (hl : l.length ≤ 1000) (w : World) : Calls Tryz.prog 55 #[.string (txB l), .string (txB p)] w fun e w' => e = .returned (.bool (Lib.hasSuffix l p)) ∧ w = w' := by
  refine (Tryz.strings_HasSuffix (txB l) (txB p) w (by rw [txB_size]; omega)).mono ?_
  rintro e w' ⟨rfl, rfl⟩
  exact ⟨by simp, rfl⟩
set_option maxRecDepth 100000 in
set_option maxHeartbeats 4000000 in
theorem parw_c (b a l : List UInt8) (d : Nat) (hd : d ≤ 4) (hb : b.length ≤ 10) (ha : a.length ≤ 10) (hl : l.length ≤ 9223372036854775807) (w : World) (hE : LaidE w) :
    Calls Tryz.prog 34 #[arV b d a, .string (txB l)] w fun e w' => e = .returned (.tuple #[.int .i64 (if parW b d a l < 0 then 0 else parW b d a l), .bool (decide (0 ≤ parW b d a l))]) ∧ Below w.heap.size w w' := by
  have hV : parW b d a l = if (l.length == b.length + d + a.length) && (Lib.hasPrefix l b && Lib.hasSuffix l a) then (if d = 0 then 0 else numL ((l.drop b.length).take d) 0) else -1 := rfl
  have z1 := txB_size b
  have z2 := txB_size a
  have z3 := txB_size l
  have w1 : IntKind.i64.wrap ((b.length : Int) + (d : Int)) = (b.length : Int) + (d : Int) := IntWalk.i64_in _ (by omega)
  have w2 : IntKind.i64.wrap ((b.length : Int) + (d : Int) + (a.length : Int)) = (b.length : Int) + (d : Int) + (a.length : Int) := IntWalk.i64_in _ (by omega)
  have hle : ((l.length : Int) != (b.length : Int) + (d : Int) + (a.length : Int)) = !(l.length == b.length + d + a.length) := by
    unfold bne
    congr 1
    rw [Bool.eq_iff_iff, beq_iff_eq, beq_iff_eq]
    omega
  generalize hX : (l.length == b.length + d + a.length) = X at *
  cases X
  · have hv : parW b d a l = -1 := by rw [hV]; rfl
    rw [hv]
    unfold arV
    clear hV hv hX hd hb ha hl
    generalize txB b = S at *
    generalize txB a = T at *
    generalize txB l = Q at *
    go_enter Tryz.func34, Tryz.ntmps34
    go_wp2
    refine bodyPost_ret (v := .tuple #[.int .i64 0, .bool false]) (by simp [results, Tryz.results34, go_sem]) rfl ⟨rfl, by go_grown⟩
  · have hlen : l.length = b.length + d + a.length := by simpa using hX
    have HP := Lib.hid (fun w => hasp_c l b w)
    have HS := Lib.hid (fun w => hass_c l a (by omega) w)
    have hq : ∀ W, (Instr.slice 9 (.string (txB l)) (some (.int .i64 (b.length : Int))) (some (.int .i64 ((b.length : Int) + (d : Int)))) none).run Tryz.prog W = .ok (.string (txB ((l.drop b.length).take d))) W := fun W => by
      rw [run_slice_string _ _ _ _ _ _ _ Tryz.underlying9 (by omega) (by omega) (by rw [z3]; omega), txB_extract]
      rw [show ((b.length : Int) + (d : Int)).toNat = b.length + d by omega, show ((b.length : Nat) : Int).toNat = b.length by omega, List.drop_take]
      congr 3
      congr 1
      omega
    have hl4 : ((l.drop b.length).take d).length = d := by rw [List.length_take, List.length_drop]; omega
    have hlt := numL_four ((l.drop b.length).take d) (by omega)
    have hge := (numL_lt ((l.drop b.length).take d) 0 (by omega)).2
    have HO := Lib.hid (fun (hd0 : d ≠ 0) h w => uintp_ok ((l.drop b.length).take d) (by intro e; rw [e] at hl4; simp at hl4; omega) (by omega) h w)
    have HN := Lib.hid (fun (hd0 : d ≠ 0) h w hE => uintp_no ((l.drop b.length).take d) (by intro e; rw [e] at hl4; simp at hl4; omega) (by omega) h w hE)
    unfold arV
    generalize numL ((l.drop b.length).take d) 0 = V at *
    generalize txB ((l.drop b.length).take d) = R at *
    generalize txB b = S at *
    generalize txB a = T at *
    generalize txB l = Q at *
    generalize Lib.hasPrefix l b = P1 at *
    generalize Lib.hasSuffix l a = P2 at *
    have hE' := hE
    clear hX hl4 ha hb
    by_cases hcc : (P1 && P2) = true
    · obtain ⟨rfl, rfl⟩ : P1 = true ∧ P2 = true := by simpa using hcc
      by_cases hd0 : d = 0
      · have hv : parW b d a l = 0 := by rw [hV]; simp [hd0]
        rw [hv]
        have e0 : ((d : Int) == 0) = true := by rw [beq_iff_eq]; omega
        clear hV hv hd0 HO HN hlt hge hd hE hE' hlen hl hcc
        go_enter Tryz.func34, Tryz.ntmps34
        go_wp2_with (first | (go_at_call 54; (with_reducible refine (HP.out _).mono ?_); rintro _ _ ⟨rfl, rfl⟩) | (go_at_call 55; (with_reducible refine (HS.out _).mono ?_); rintro _ _ ⟨rfl, rfl⟩))
        refine bodyPost_ret (v := .tuple #[.int .i64 0, .bool true]) (by simp [results, Tryz.results34, go_sem]) rfl ⟨rfl, by go_grown⟩
      · have hv : parW b d a l = V := by rw [hV]; simp [hd0]
        rw [hv]
        have e0 : ((d : Int) == 0) = false := by rw [beq_eq_false_iff_ne]; omega
        by_cases hneg : V < 0
        · have HNN := Lib.hid (HN.out hd0 hneg)
          have hd1 : decide (0 ≤ V) = false := decide_eq_false (by omega)
          rw [if_pos hneg, hd1]
          clear hV hv hd0 HO HN hlt hge hd hlen hl hcc hneg hd1
          go_enter Tryz.func34, Tryz.ntmps34
          go_wp2_with (first | (go_at_call 54; (with_reducible refine (HP.out _).mono ?_); rintro _ _ ⟨rfl, rfl⟩) | (go_at_call 55; (with_reducible refine (HS.out _).mono ?_); rintro _ _ ⟨rfl, rfl⟩))
          refine (HNN.out _ (hE.below (by go_grown))).mono ?_
          rintro _ u ⟨N, rfl, hb⟩
          have hB : Below w.heap.size w u := kb (by go_grown) hb
          clear hb hE hE'
          go_wp2_with fail
          go_region
          all_goals
            go_wp2
            refine bodyPost_ret (v := .tuple #[.int .i64 0, .bool false]) (by simp [results, Tryz.results34, go_sem]) rfl ⟨rfl, by go_grown⟩
        · have HOO := Lib.hid (HO.out hd0 (by omega))
          have hd1 : decide (0 ≤ V) = true := decide_eq_true (by omega)
          have w5 : IntKind.i64.wrap V = V := IntWalk.i64_in _ (by omega)
          rw [if_neg hneg, hd1]
          clear hV hv hd0 HO HN hlt hge hd hlen hl hcc hneg hd1 hE hE'
          go_enter Tryz.func34, Tryz.ntmps34
          go_wp2_with (first | (go_at_call 54; (with_reducible refine (HP.out _).mono ?_); rintro _ _ ⟨rfl, rfl⟩) | (go_at_call 55; (with_reducible refine (HS.out _).mono ?_); rintro _ _ ⟨rfl, rfl⟩))
          ((with_reducible refine (HOO.out _).mono ?_); rintro _ u ⟨rfl, hb⟩)
          have T : u.cell? ⟨w.heap.size, 0, none⟩ = some (.string S) ∧ u.cell? ⟨w.heap.size, 1, none⟩ = some (.int .i64 d) ∧ u.cell? ⟨w.heap.size, 2, none⟩ = some (.string T) := by
              refine ⟨?_, ?_, ?_⟩ <;> refine kc hb ?_ <;> (go_simp; first | done | rfl)
          have hz := hb.size
          (try simp only [World.size_alloc, World.size_setCell, World.size_drew] at hz)
          have hlx' : w.heap.size < u.heap.size := by omega
          have hB' : Below w.heap.size w u := by
              refine kb ?_ hb
              go_grown
          clear hb hz
          obtain ⟨hx_0, hx_1, hx_2⟩ := T
          have hlx := hlx'; clear hlx'
          have hnx0 : ¬ (w.heap.size = u.heap.size) := by omega
          have hnx1 : ¬ (w.heap.size = u.heap.size + 1) := by omega
          have hkx1 : w.heap.size < u.heap.size + 1 := by omega
          have hnx2 : ¬ (w.heap.size = u.heap.size + 1 + 1) := by omega
          have hkx2 : w.heap.size < u.heap.size + 1 + 1 := by omega
          have hB := hB'; clear hB'
          have hsz := hB.size
          go_wp2_with fail
          go_region
          all_goals
            go_wp2
            refine bodyPost_ret (v := .tuple #[.int .i64 V, .bool true]) (by simp [results, Tryz.results34, go_sem]) rfl ⟨rfl, by go_grown⟩
    · have hv : parW b d a l = -1 := by rw [hV, if_neg (by simpa using hcc)]
      rw [hv]
      have hpp : P1 = false ∨ (P1 = true ∧ P2 = false) := by cases P1 <;> cases P2 <;> simp_all
      clear hV hv HO HN hlt hge hd hlen hl hcc hE hE'
      rcases hpp with rfl | ⟨rfl, rfl⟩
      all_goals
        skip
        go_enter Tryz.func34, Tryz.ntmps34
        go_wp2_with (first | (go_at_call 54; (with_reducible refine (HP.out _).mono ?_); rintro _ _ ⟨rfl, rfl⟩) | (go_at_call 55; (with_reducible refine (HS.out _).mono ?_); rintro _ _ ⟨rfl, rfl⟩))
        refine bodyPost_ret (v := .tuple #[.int .i64 0, .bool false]) (by simp [results, Tryz.results34, go_sem]) rfl ⟨rfl, by go_grown⟩
end Go.Proofs.YtpjpoopgafcedaaGreatDoor
