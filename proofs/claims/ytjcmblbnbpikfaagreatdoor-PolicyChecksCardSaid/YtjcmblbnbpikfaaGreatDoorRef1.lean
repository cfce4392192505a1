/-
  Layer 6's document: a letter, a digit's number, what may not stand behind, a number.
-/
import Derived.Test.YtjcmblbnbpikfaaGreatDoorLex
set_option linter.unusedSimpArgs false
set_option linter.unusedVariables false
namespace Go.Proofs.YtjcmblbnbpikfaaGreatDoor
open Go.RowKit Go.PlainAid

theorem isLet_ways (b : UInt8) : ∃ p1 p2 : Bool, decide (97 ≤ bI b) = p1 ∧ decide (bI b ≤ 122) = p2 ∧ isLet b = (p1 && p2) := by
  refine ⟨_, _, rfl, rfl, ?_⟩
  unfold isLet bI
  congr 1 <;> exact dec_eqs (by omega)
theorem letter_c (b : UInt8) (w : World) : Calls Tryz.prog 64 #[.int .u8 (bI b)] w fun e w' => e = .returned (.bool (isLet b)) ∧ w = w' := by
  obtain ⟨p1, p2, e1, e2, e3⟩ := isLet_ways b
  rw [e3]
  generalize bI b = c at *
  cases p1 <;> cases p2
  all_goals
    go_enter Tryz.func64, Tryz.ntmps64
    go_wp2
    go_ret
    exact ⟨rfl, rfl⟩
theorem digN_ways (b : UInt8) : ∃ p1 p2 p3 p4 : Bool, decide (48 ≤ bI b) = p1 ∧ decide (bI b ≤ 57) = p2 ∧ decide (97 ≤ bI b) = p3 ∧ decide (bI b ≤ 102) = p4 ∧
    ((p1 = true ∧ p2 = true ∧ (digN b : Int) = bI b - 48 ∧ 48 ≤ bI b) ∨ ((p1 && p2) = false ∧ p3 = true ∧ p4 = true ∧ (digN b : Int) = bI b - 87 ∧ 87 ≤ bI b) ∨ ((p1 && p2) = false ∧ (p3 && p4) = false ∧ (digN b : Int) = 99)) := by
  refine ⟨_, _, _, _, rfl, rfl, rfl, rfl, ?_⟩
  unfold digN bI
  by_cases h1 : 48 ≤ b.toNat ∧ b.toNat ≤ 57
  · rw [if_pos h1]
    exact .inl ⟨by simp; omega, by simp; omega, by omega, by omega⟩
  · rw [if_neg h1]
    by_cases h2 : 97 ≤ b.toNat ∧ b.toNat ≤ 102
    · rw [if_pos h2]
      exact .inr (.inl ⟨by simp; omega, by simp; omega, by simp; omega, by omega, by omega⟩)
    · rw [if_neg h2]
      exact .inr (.inr ⟨by simp; omega, by simp; omega, rfl⟩)
set_option maxHeartbeats 1000000 in
theorem digit_c (b : UInt8) (w : World) : Calls Tryz.prog 90 #[.int .u8 (bI b)] w fun e w' => e = .returned (.int .i64 (digN b : Int)) ∧ w = w' := by
  obtain ⟨p1, p2, p3, p4, e1, e2, e3, e4, h⟩ := digN_ways b
  have b1 := bI_lo b
  have b2 := bI_hi b
  obtain ⟨D, hD⟩ : ∃ D : Int, (digN b : Int) = D := ⟨_, rfl⟩
  rw [hD] at h ⊢
  have w0 : IntKind.i64.wrap (bI b) = bI b := IntWalk.i64_in _ (by omega)
  have w1 : IntKind.i64.wrap (bI b - 48) = bI b - 48 := IntWalk.i64_in _ (by omega)
  have w2 : IntKind.i64.wrap (bI b - 87) = bI b - 87 := IntWalk.i64_in _ (by omega)
  clear hD b1 b2
  generalize bI b = c at *
  rcases h with ⟨rfl, rfl, hd, h0⟩ | ⟨h12, rfl, rfl, hd, h0⟩ | ⟨h12, h34, hd⟩
  · have HD := Lib.hid hd
    clear hd h0
    go_enter Tryz.func90, Tryz.ntmps90
    go_wp2
    go_ret
    exact ⟨ret_i64 HD.out.symm, rfl⟩
  · have HD := Lib.hid hd
    clear hd h0
    cases p1 <;> cases p2 <;> (try exact absurd h12 (by decide))
    all_goals
      go_enter Tryz.func90, Tryz.ntmps90
      go_wp2
      go_ret
      exact ⟨ret_i64 HD.out.symm, rfl⟩
  · have HD := Lib.hid hd
    clear hd
    cases p1 <;> cases p2 <;> (try exact absurd h12 (by decide)) <;> cases p3 <;> cases p4 <;> (try exact absurd h34 (by decide))
    all_goals
      go_enter Tryz.func90, Tryz.ntmps90
      go_wp2
      go_ret
      exact ⟨ret_i64 HD.out.symm, rfl⟩
theorem dig_lt (b : UInt8) (base : Nat) : decide ((digN b : Int) < (base : Int)) = isDig base b := by unfold isDig; exact dec_eqs (by omega)
theorem glue_ways (b : UInt8) : isGlue b = (isLet b || (decide ((digN b : Int) < 10) || (bI b == 36))) := by
  unfold isGlue
  rw [bI_eq b 36 36 rfl, show decide ((digN b : Int) < 10) = isDig 10 b from dig_lt b 10, Bool.or_assoc]
theorem glueAt_in (l : List UInt8) (k : Nat) (h : k < l.length) : glueAt l k = isGlue (at8 l k) := by unfold glueAt; rw [at8_some l k h]
theorem glueAt_end (l : List UInt8) (k : Nat) (h : l.length ≤ k) : glueAt l k = false := by unfold glueAt; rw [List.getElem?_eq_none h]
set_option maxRecDepth 100000 in
set_option maxHeartbeats 1000000 in
theorem glued_c (l : List UInt8) (k : Nat) (w : World) : Calls Tryz.prog 89 #[.string (txB l), .int .i64 (k : Int)] w fun e w' => e = .returned (.bool (glueAt l k)) ∧ w = w' := by
  have hz := txB_size l
  by_cases hlt : k < l.length
  · have hd : decide ((k : Int) < ((txB l).size : Int)) = true := decide_eq_true (by omega)
    have q := ix_l l k hlt k rfl
    rw [glueAt_in l k hlt, glue_ways]
    have HL := Lib.hid (letter_c (at8 l k))
    have HD := Lib.hid (digit_c (at8 l k))
    generalize (digN (at8 l k) : Int) = D at *
    generalize bI (at8 l k) = c at *
    generalize isLet (at8 l k) = p at *
    generalize e1 : decide (D < 10) = p1 at *
    generalize e2 : (c == 36) = p2 at *
    generalize txB l = S at *
    generalize (k : Int) = K at *
    cases p <;> cases p1 <;> cases p2
    all_goals
      clear hz hlt
      go_enter Tryz.func89, Tryz.ntmps89
      go_wp2_with (first | (go_at_call 64; (with_reducible refine (HL.out _).mono ?_); rintro _ _ ⟨rfl, rfl⟩) | (go_at_call 90; (with_reducible refine (HD.out _).mono ?_); rintro _ _ ⟨rfl, rfl⟩))
      go_ret
      exact ⟨rfl, rfl⟩
  · have hd : decide ((k : Int) < ((txB l).size : Int)) = false := decide_eq_false (by omega)
    rw [glueAt_end l k (by omega)]
    generalize txB l = S at *
    generalize (k : Int) = K at *
    clear hz hlt
    go_enter Tryz.func89, Tryz.ntmps89
    go_wp2
    go_ret
    exact ⟨rfl, rfl⟩
theorem min_if (x : Int) : (if x < 65536 then x else 65536) = min 65536 x := by split <;> omega
theorem numV_stop (base : Nat) (l : List UInt8) (k : Nat) (n : Int) (h : l.length ≤ k) : numV base (l.drop k) n = n := by rw [List.drop_eq_nil_of_le h]; rfl
theorem numV_no (base : Nat) (l : List UInt8) (k : Nat) (n : Int) (h : k < l.length) (hp : isDig base (at8 l k) = false) : numV base (l.drop k) n = n := by
  rw [List.drop_eq_getElem_cons h]
  rw [at8_get l k h] at hp
  show (if _ then _ else _) = _
  rw [hp]
  rfl
theorem numV_yes (base : Nat) (l : List UInt8) (k : Nat) (n : Int) (h : k < l.length) (hp : isDig base (at8 l k) = true) : numV base (l.drop k) n = numV base (l.drop (k + 1)) (min 65536 (n * base + digN (at8 l k))) := by
  rw [List.drop_eq_getElem_cons h]
  rw [at8_get l k h] at hp ⊢
  show (if _ then _ else _) = _
  rw [hp]
  rfl
set_option maxRecDepth 100000 in
set_option maxHeartbeats 2000000 in
theorem number_c (l : List UInt8) (hl : l.length ≤ 100000) (k0 : Nat) (h0 : k0 ≤ l.length) (base : Nat) (hb : base ≤ 16) (w : World) :
    Calls Tryz.prog 91 #[.string (txB l), .int .i64 (k0 : Int), .int .i64 (base : Int)] w fun e w' => e = .returned (.tuple #[.int .i64 (numV base (l.drop k0) 0), .int .i64 (runL (isDig base) l k0 : Nat)]) ∧ w = w' := by
  obtain ⟨V, hV⟩ : ∃ V, numV base (l.drop k0) 0 = V := ⟨_, rfl⟩
  obtain ⟨R, hR⟩ : ∃ R, runL (isDig base) l k0 = R := ⟨_, rfl⟩
  rw [hV, hR]
  have HV := Lib.hid hV
  have HR := Lib.hid hR
  have HL := Lib.hid hl
  have HK := Lib.hid h0
  have HZ := Lib.hid (txB_size l)
  have Hb := Lib.hid hb
  clear hV hR hl h0 hb
  generalize hS : txB l = S at *
  have HS := Lib.hid hS
  clear hS
  generalize hB : (base : Int) = B at *
  have HB := Lib.hid hB
  clear hB
  generalize hK0 : (k0 : Int) = K0 at *
  have HK0 := Lib.hid hK0
  clear hK0
  go_enter Tryz.func91, Tryz.ntmps91
  go_wp2
  go_loop [1, 8] (fun i n => ∃ (k : Nat) (K N : Int), i = .int .i64 K ∧ n = .int .i64 N ∧ Hid (K = k ∧ k ≤ l.length ∧ 0 ≤ N ∧ N ≤ 65536 ∧ numV base (l.drop k) N = V ∧ runL (isDig base) l k = R)) (fun i n => l.length - (intOf i).toNat)
  case atStart => exact ⟨k0, K0, 0, rfl, rfl, Lib.hid ⟨HK0.out.symm, HK.out, by omega, by omega, HV.out, HR.out⟩⟩
  case round =>
    obtain ⟨k, K, N, rfl, rfl, HQ⟩ := hrel
    obtain ⟨q1, q2, q3, q4, q5, q6⟩ := HQ.out
    have hz := HZ.out
    by_cases hlt : k < l.length
    · have hd : decide (K < (S.size : Int)) = true := decide_eq_true (by omega)
      have q := fun W => by have := ix_l l k hlt K q1 W; rw [HS.out] at this; exact this
      have HD := Lib.hid (digit_c (at8 l k))
      have hdl := dig_lt (at8 l k) base
      have hD := digN_lt (at8 l k)
      rw [HB.out] at hdl
      have hl := HL.out
      have hb16 := Hb.out
      have hB := HB.out
      have hN0 : 0 ≤ N * B := Int.mul_nonneg q3 (by omega)
      have hN1 : N * B ≤ 65536 * 16 := Int.mul_le_mul q4 (by omega) (by omega) (by omega)
      have w1 : IntKind.i64.wrap (N * B) = N * B := IntWalk.i64_in _ (by omega)
      cases e : isDig base (at8 l k)
      · have g1 := numV_no base l k N hlt e
        have g2 := runL_no (isDig base) l k hlt (by rw [← at8_get l k hlt]; exact e)
        have HF := Lib.hid (show N = V ∧ k = R from ⟨by rw [← q5, g1], by rw [← q6, g2]⟩)
        rw [e] at hdl
        generalize (digN (at8 l k) : Int) = D at *
        generalize bI (at8 l k) = c at *
        clear g1 g2 e q2 q3 q4 q5 q6 hz hlt hl hb16 hB hN0 hN1 w1
        have HQ1 := Lib.hid q1
        clear q1
        go_wp2_with (go_at_call 90; (with_reducible refine (HD.out _).mono ?_); rintro _ _ ⟨rfl, rfl⟩)
        refine bodyPost_ret (v := .tuple #[.int .i64 N, .int .i64 K]) (by simp [results, Tryz.results91, go_sem]) rfl ⟨by rw [HF.out.1, HQ1.out, HF.out.2], rfl⟩
      · have g1 := numV_yes base l k N hlt e
        have g2 := runL_yes (isDig base) l k hlt (by rw [← at8_get l k hlt]; exact e)
        rw [e] at hdl
        have w2 : IntKind.i64.wrap (N * B + (digN (at8 l k) : Int)) = N * B + (digN (at8 l k) : Int) := IntWalk.i64_in _ (by omega)
        have w3 : IntKind.i64.wrap (K + 1) = K + 1 := IntWalk.i64_in _ (by omega)
        have HN := Lib.hid (show K + 1 = ((k + 1 : Nat) : Int) ∧ k + 1 ≤ l.length ∧ 0 ≤ min 65536 (N * B + (digN (at8 l k) : Int)) ∧ min 65536 (N * B + (digN (at8 l k) : Int)) ≤ 65536 ∧ numV base (l.drop (k + 1)) (min 65536 (N * B + (digN (at8 l k) : Int))) = V ∧ runL (isDig base) l (k + 1) = R from
          ⟨by omega, by omega, by omega, by omega, by rw [← q5, g1, hB], by rw [← q6, g2]⟩)
        generalize (digN (at8 l k) : Int) = D at *
        generalize bI (at8 l k) = c at *
        have HQ1 := Lib.hid (And.intro q1 hlt)
        clear g1 g2 e q1 q2 q3 q4 q5 q6 hz hlt hl hb16 hB hN0 hN1
        go_wp2_with (go_at_call 90; (with_reducible refine (HD.out _).mono ?_); rintro _ _ ⟨rfl, rfl⟩)
        go_round
        case rel => exact ⟨k + 1, K + 1, _, rfl, rfl, by rw [min_if]; exact HN⟩
        case measure => have := HQ1.out; simp only [intOf]; omega
    · have hd : decide (K < (S.size : Int)) = false := decide_eq_false (by omega)
      have HF := Lib.hid (show N = V ∧ K = R from ⟨by rw [← q5, numV_stop base l k N (by omega)], by rw [← q6, runL_stop (isDig base) l k (by omega)]; exact q1⟩)
      clear q1 q2 q3 q4 q5 q6 hz hlt HQ
      go_wp2
      refine bodyPost_ret (v := .tuple #[.int .i64 N, .int .i64 K]) (by simp [results, Tryz.results91, go_sem]) rfl ⟨by rw [HF.out.1, HF.out.2], rfl⟩
end Go.Proofs.YtjcmblbnbpikfaaGreatDoor
