/-
  Layer 5's document: hexadecimal digits read.
-/
import Derived.Test.YtpjpoopgafcedaaGreatDoorDigs
set_option linter.unusedSimpArgs false
set_option linter.unusedVariables false
namespace Go.Proofs.YtpjpoopgafcedaaGreatDoor
open Go.RowKit Go.PlainAid

/-- The number of a hexadecimal digit; of several. -/
def digH (b : Int) : Int := if 48 ≤ b ∧ b ≤ 57 then b - 48 else if 65 ≤ b ∧ b ≤ 70 then b - 55 else if 97 ≤ b ∧ b ≤ 102 then b - 87 else -1
theorem digH_hi (b : Int) : digH b ≤ 15 := by unfold digH; split; omega; split; omega; split <;> omega
theorem digH_lo (b : Int) : -1 ≤ digH b := by unfold digH; split; omega; split; omega; split <;> omega
def numL : List UInt8 → Int → Int
  | [], a => a
  | c :: r, a => if digH c.toNat < 0 then -1 else numL r (16 * a + digH c.toNat)
theorem digh_ways (b : Int) (h0 : 0 ≤ b) (h1 : b ≤ 255) : ∃ p1 p2 p3 p4 p5 p6 : Bool, decide (48 ≤ b) = p1 ∧ decide (b ≤ 57) = p2 ∧ decide (65 ≤ b) = p3 ∧ decide (b ≤ 70) = p4 ∧ decide (97 ≤ b) = p5 ∧ decide (b ≤ 102) = p6 ∧
    ((p1 = false ∧ p3 = false ∧ p5 = false ∧ digH b = -1) ∨ (p1 = true ∧ p2 = true ∧ digH b = b - 48) ∨ (p1 = true ∧ p2 = false ∧ p3 = false ∧ p5 = false ∧ digH b = -1) ∨ (p1 = true ∧ p2 = false ∧ p3 = true ∧ p4 = true ∧ digH b = b - 55) ∨
      (p1 = true ∧ p2 = false ∧ p3 = true ∧ p4 = false ∧ p5 = false ∧ digH b = -1) ∨ (p1 = true ∧ p2 = false ∧ p3 = true ∧ p4 = false ∧ p5 = true ∧ p6 = true ∧ digH b = b - 87) ∨ (p1 = true ∧ p2 = false ∧ p3 = true ∧ p4 = false ∧ p5 = true ∧ p6 = false ∧ digH b = -1)) := by
  refine ⟨_, _, _, _, _, _, rfl, rfl, rfl, rfl, rfl, rfl, ?_⟩
  unfold digH
  simp only [decide_eq_true_eq, decide_eq_false_iff_not]
  by_cases a1 : 48 ≤ b
  · by_cases a2 : b ≤ 57
    · exact .inr (.inl ⟨a1, a2, by rw [if_pos ⟨a1, a2⟩]⟩)
    · by_cases a3 : 65 ≤ b
      · by_cases a4 : b ≤ 70
        · exact .inr (.inr (.inr (.inl ⟨a1, a2, a3, a4, by rw [if_neg (fun h => a2 h.2), if_pos ⟨a3, a4⟩]⟩)))
        · by_cases a5 : 97 ≤ b
          · by_cases a6 : b ≤ 102
            · exact .inr (.inr (.inr (.inr (.inr (.inl ⟨a1, a2, a3, a4, a5, a6, by rw [if_neg (fun h => a2 h.2), if_neg (fun h => a4 h.2), if_pos ⟨a5, a6⟩]⟩)))))
            · exact .inr (.inr (.inr (.inr (.inr (.inr ⟨a1, a2, a3, a4, a5, a6, by rw [if_neg (fun h => a2 h.2), if_neg (fun h => a4 h.2), if_neg (fun h => a6 h.2)]⟩)))))
          · exact .inr (.inr (.inr (.inr (.inl ⟨a1, a2, a3, a4, a5, by rw [if_neg (fun h => a2 h.2), if_neg (fun h => a4 h.2), if_neg (fun h => a5 h.1)]⟩))))
      · exact .inr (.inr (.inl ⟨a1, a2, a3, by omega, by rw [if_neg (fun h => a2 h.2), if_neg (fun h => a3 h.1), if_neg (by omega)]⟩))
  · exact .inl ⟨a1, by omega, by omega, by rw [if_neg (fun h => a1 h.1), if_neg (by omega), if_neg (by omega)]⟩
set_option maxHeartbeats 1000000 in
theorem digith_c (b : Int) (h0 : 0 ≤ b) (h1 : b ≤ 255) (w : World) : Calls Tryz.prog 58 #[.int .u8 b] w fun e w' => e = .returned (.int .i64 (digH b)) ∧ w = w' := by
  obtain ⟨p1, p2, p3, p4, p5, p6, e1, e2, e3, e4, e5, e6, h⟩ := digh_ways b h0 h1
  have HU := Lib.hid (fun k (hk : k ≤ b) (hk0 : 0 ≤ k) => show IntKind.u8.wrap (b - k) = b - k from by rw [IntKind.wrap_u8]; omega)
  have HI := Lib.hid (fun k (hk : k ≤ b) (hk0 : 0 ≤ k) => show IntKind.i64.wrap (b - k) = b - k from IntWalk.i64_in _ (by omega))
  have HJ := Lib.hid (fun k (hk : k ≤ b) (hk0 : 0 ≤ k) => show IntKind.i64.wrap (b - k + 10) = b - k + 10 from IntWalk.i64_in _ (by omega))
  rcases h with ⟨rfl, rfl, rfl, hd⟩ | ⟨rfl, rfl, hd⟩ | ⟨rfl, rfl, rfl, rfl, hd⟩ | ⟨rfl, rfl, rfl, rfl, hd⟩ | ⟨rfl, rfl, rfl, rfl, rfl, hd⟩ | ⟨rfl, rfl, rfl, rfl, rfl, rfl, hd⟩ | ⟨rfl, rfl, rfl, rfl, rfl, rfl, hd⟩
  · go_enter Tryz.func58, Tryz.ntmps58
    go_wp2
    go_ret
    exact ⟨ret_i64 hd.symm, rfl⟩
  · have u := HU.out 48 (of_decide_eq_true e1) (by decide)
    have v := HI.out 48 (of_decide_eq_true e1) (by decide)
    have HD := Lib.hid hd
    clear hd
    go_enter Tryz.func58, Tryz.ntmps58
    go_wp2
    go_ret
    exact ⟨ret_i64 HD.out.symm, rfl⟩
  · go_enter Tryz.func58, Tryz.ntmps58
    go_wp2
    go_ret
    exact ⟨ret_i64 hd.symm, rfl⟩
  · have u := HU.out 65 (of_decide_eq_true e3) (by decide)
    have v := HI.out 65 (of_decide_eq_true e3) (by decide)
    have v2 := HJ.out 65 (of_decide_eq_true e3) (by decide)
    have HD := Lib.hid hd
    clear hd
    go_enter Tryz.func58, Tryz.ntmps58
    go_wp2
    go_ret
    exact ⟨ret_i64 (by rw [HD.out]; omega), rfl⟩
  · go_enter Tryz.func58, Tryz.ntmps58
    go_wp2
    go_ret
    exact ⟨ret_i64 hd.symm, rfl⟩
  · have u := HU.out 97 (of_decide_eq_true e5) (by decide)
    have v := HI.out 97 (of_decide_eq_true e5) (by decide)
    have v2 := HJ.out 97 (of_decide_eq_true e5) (by decide)
    have HD := Lib.hid hd
    clear hd
    go_enter Tryz.func58, Tryz.ntmps58
    go_wp2
    go_ret
    exact ⟨ret_i64 (by rw [HD.out]; omega), rfl⟩
  · go_enter Tryz.func58, Tryz.ntmps58
    go_wp2
    go_ret
    exact ⟨ret_i64 hd.symm, rfl⟩

theorem bt_txB (l : List UInt8) (k : Nat) (h : k < l.length) : bt (txB l) k = (l[k].toNat : Int) := by
  rw [bt_list (txB l) l rfl]
  unfold btL
  rw [List.getElem?_eq_getElem h]
theorem txB_size (l : List UInt8) : (txB l).size = l.length := by show l.toArray.size = _; simp
set_option maxRecDepth 100000 in
set_option maxHeartbeats 1000000 in
theorem number_c (l : List UInt8) (hl : l.length ≤ 4) (w : World) : Calls Tryz.prog 39 #[.string (txB l)] w fun e w' => e = .returned (.int .i64 (numL l 0)) ∧ w = w' := by
  obtain ⟨R, hR⟩ : ∃ R, numL l 0 = R := ⟨_, rfl⟩
  rw [hR]
  have HR := Lib.hid hR
  clear hR
  have hz := txB_size l
  have HB := Lib.hid (fun k h => bt_txB l k h)
  have HX := Lib.hid (fun k h i hi W => ix_at (txB l) k h i hi W)
  have h0 := Lib.hid (fun k => bt_nonneg (txB l) k)
  have h1 := Lib.hid (fun k => bt_le (txB l) k)
  generalize hS : txB l = S at *
  go_enter Tryz.func39, Tryz.ntmps39
  go_wp2
  go_loopw [3, 4] (fun a i wr => ∃ (k : Nat) (n : Int), k ≤ l.length ∧ i = .int .i64 k ∧ a = .int .i64 n ∧ Hid (numL (l.drop k) n = R ∧ 0 ≤ n ∧ n < 16 ^ k) ∧ w = wr) (fun a i _ => l.length - (intOf i).toNat)
  case atStart => exact ⟨0, 0, by omega, rfl, rfl, Lib.hid ⟨by simpa using HR.out, by omega, by decide⟩, rfl⟩
  case round =>
    obtain ⟨k, n, hk, rfl, rfl, HN, rfl⟩ := hrel
    by_cases hlt : k < l.length
    · have hd : decide ((k : Int) < (S.size : Int)) = true := decide_eq_true (by omega)
      obtain ⟨N1, N2, N3⟩ := HN.out
      have q := HX.out k (by omega) k rfl
      have hdrop : l.drop k = l[k] :: l.drop (k + 1) := List.drop_eq_getElem_cons hlt
      have hb := HB.out k hlt
      rw [hdrop] at N1
      unfold numL at N1
      rw [← hb] at N1
      have HC := Lib.hid (fun w => digith_c (bt S k) (h0.out k) (h1.out k) w)
      have d1 := digH_hi (bt S k)
      have hn4 : n < 4096 := by
        have : (16 : Int) ^ k ≤ 16 ^ 3 := by
          have hk3 : k ≤ 3 := by omega
          rcases (show k = 0 ∨ k = 1 ∨ k = 2 ∨ k = 3 by omega) with rfl | rfl | rfl | rfl <;> decide
        omega
      have hp : (16 : Int) ^ (k + 1) = 16 ^ k * 16 := by rw [Int.pow_succ]
      generalize digH (bt S k) = D at *
      cases e1 : decide (D < 0)
      · have hD : 0 ≤ D := by have := of_decide_eq_false e1; omega
        have w1 : IntKind.i64.wrap (16 * n) = 16 * n := IntWalk.i64_in _ (by omega)
        have w2 : IntKind.i64.wrap (16 * n + D) = 16 * n + D := IntWalk.i64_in _ (by omega)
        have HN2 := Lib.hid (show numL (l.drop (k + 1)) (16 * n + D) = R ∧ 0 ≤ 16 * n + D ∧ 16 * n + D < 16 ^ (k + 1) from by
          rw [if_neg (by omega)] at N1
          exact ⟨N1, by omega, by rw [hp]; omega⟩)
        clear N1 N2 N3 hdrop hb d1 hn4 hp hD HN
        go_wp2_with (go_at_call 58; (with_reducible refine (HC.out _).mono ?_); rintro _ _ ⟨rfl, rfl⟩)
        go_roundw
        case rel => exact ⟨k + 1, 16 * n + D, by omega, by go_num, rfl, HN2, trivial⟩
        case measure => simp [intOf]; omega
      · have HV := Lib.hid (show R = -1 from by
          rw [if_pos (of_decide_eq_true e1)] at N1
          exact N1.symm)
        clear N1 N2 N3 hdrop hb d1 hn4 hp HN
        go_wp2_with (go_at_call 58; (with_reducible refine (HC.out _).mono ?_); rintro _ _ ⟨rfl, rfl⟩)
        go_ret
        exact ⟨ret_i64 HV.out.symm, rfl⟩
    · have hk8 : k = l.length := by omega
      have hd : decide ((k : Int) < (S.size : Int)) = false := decide_eq_false (by omega)
      have HV := Lib.hid (show R = n from by
        have := HN.out.1
        rw [hk8, List.drop_length] at this
        exact this.symm)
      clear HN
      go_wp2
      go_ret
      exact ⟨ret_i64 HV.out.symm, rfl⟩
end Go.Proofs.YtpjpoopgafcedaaGreatDoor
