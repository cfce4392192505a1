/- Layer 6's document: a letter, -/
import Derived.Test.YtjcmblbnbpikfaaGreatDoorLex
set_option linter.unusedSimpArgs false
set_option linter.unusedVariables false
set_option maxRecDepth 100000
namespace Go.Proofs.YtjcmblbnbpikfaaGreatDoor
open Lib (hid)
open Go.RowKit Go.PlainAid

theorem isLet_ways (b : UInt8) : ∃ p1 p2 : Bool, decide (97 ≤ bI b) = p1 ∧ decide (bI b ≤ 122) = p2 ∧ isLet b = (p1 && p2) := by
 refine ⟨_, _, rfl, rfl, ?_⟩
 unfold isLet bI
 congr 1 <;> exact dec_eqs (by omega)
theorem letter_c (b : UInt8) (w : World) : Calls Tryz.prog 64 #[.int .u8 (bI b)] w fun e w' => e = .returned (.bool (isLet b)) ∧ w = w' := by
 obtain ⟨p1, p2, e1, e2, e3⟩ := isLet_ways b
 rw [e3]
 generalize bI b = c at *
 cases p1 <;> cases p2
 all_goals
  go_enter Tryz.func64, Tryz.ntmps64
  go_wp2
  go_ret
  exact ⟨rfl, rfl⟩
theorem digN_ways (b : UInt8) : ∃ p1 p2 p3 p4 : Bool, decide (48 ≤ bI b) = p1 ∧ decide (bI b ≤ 57) = p2 ∧ decide (97 ≤ bI b) = p3 ∧ decide (bI b ≤ 102) = p4 ∧
  ((p1 = true ∧ p2 = true ∧ (digN b : Int) = bI b - 48 ∧ 48 ≤ bI b) ∨ ((p1 && p2) = false ∧ p3 = true ∧ p4 = true ∧ (digN b : Int) = bI b - 87 ∧ 87 ≤ bI b) ∨ ((p1 && p2) = false ∧ (p3 && p4) = false ∧ (digN b : Int) = 99)) := by
 refine ⟨_, _, _, _, rfl, rfl, rfl, rfl, ?_⟩
 unfold digN bI
 by_cases h1 : 48 ≤ b.toNat ∧ b.toNat ≤ 57
 ·rw [if_pos h1]
  exact .inl ⟨by simp; omega, by simp; omega, by omega, by omega⟩
 ·rw [if_neg h1]
  by_cases h2 : 97 ≤ b.toNat ∧ b.toNat ≤ 102
  ·rw [if_pos h2]
   exact .inr (.inl ⟨by simp; omega, by simp; omega, by simp; omega, by omega, by omega⟩)
  ·rw [if_neg h2]
   exact .inr (.inr ⟨by simp; omega, by simp; omega, rfl⟩)
set_option maxHeartbeats 1000000 in
theorem digit_c (b : UInt8) (w : World) : Calls Tryz.prog 90 #[.int .u8 (bI b)] w fun e w' => e = .returned (.int .i64 (digN b : Int)) ∧ w = w' := by
 obtain ⟨p1, p2, p3, p4, e1, e2, e3, e4, h⟩ := digN_ways b
 have b1 := bI_lo b
 have b2 := bI_hi b
 obtain ⟨D, hD⟩ : ∃ D : Int, (digN b : Int) = D := ⟨_, rfl⟩
 rw [hD] at h ⊢
 have w0 : IntKind.i64.wrap (bI b) = bI b := IntWalk.i64_in _ (by omega)
 have w1 : IntKind.i64.wrap (bI b - 48) = bI b - 48 := IntWalk.i64_in _ (by omega)
 have w2 : IntKind.i64.wrap (bI b - 87) = bI b - 87 := IntWalk.i64_in _ (by omega)
 clear hD b1 b2
 generalize bI b = c at *
 rcases h with ⟨rfl, rfl, hd, h0⟩ | ⟨h12, rfl, rfl, hd, h0⟩ | ⟨h12, h34, hd⟩
 ·have HD := hid hd
  clear hd h0
  go_enter Tryz.func90, Tryz.ntmps90
  go_wp2
  go_ret
  exact ⟨ret_i64 HD.out.symm, rfl⟩
 ·have HD := hid hd
  clear hd h0
  cases p1 <;> cases p2 <;> (try exact absurd h12 (by decide))
  all_goals
   go_enter Tryz.func90, Tryz.ntmps90
   go_wp2
   go_ret
   exact ⟨ret_i64 HD.out.symm, rfl⟩
 ·have HD := hid hd
  clear hd
  cases p1 <;> cases p2 <;> (try exact absurd h12 (by decide)) <;> cases p3 <;> cases p4 <;> (try exact absurd h34 (by decide))
  all_goals
   go_enter Tryz.func90, Tryz.ntmps90
   go_wp2
   go_ret
   exact ⟨ret_i64 HD.out.symm, rfl⟩
theorem dig_lt (b : UInt8) (base : Nat) : decide ((digN b : Int) < (base : Int)) = isDig base b := by unfold isDig; exact dec_eqs (by omega)
theorem glue_ways (b : UInt8) : isGlue b = (isLet b || (decide ((digN b : Int) < 10) || (bI b == 36))) := by
 unfold isGlue
 rw [bI_eq b 36 36 rfl, show decide ((digN b : Int) < 10) = isDig 10 b from dig_lt b 10, Bool.or_assoc]
theorem glueAt_in (l : List UInt8) (k : Nat) (h : k < l.length) : glueAt l k = isGlue (at8 l k) := by unfold glueAt; rw [at8_some l k h]
theorem glueAt_end (l : List UInt8) (k : Nat) (h : l.length ≤ k) : glueAt l k = false := by unfold glueAt; rw [List.getElem?_eq_none h]
set_option maxHeartbeats 1000000 in
theorem glued_c (l : List UInt8) (k : Nat) (w : World) : Calls Tryz.prog 89 #[.string (txB l), .int .i64 (k : Int)] w fun e w' => e = .returned (.bool (glueAt l k)) ∧ w = w' := by
 have hz := txB_size l
 by_cases hlt : k < l.length
 ·have hd : decide ((k : Int) < ((txB l).size : Int)) = true := decide_eq_true (by omega)
  have q := ix_l l k hlt k rfl
  rw [glueAt_in l k hlt, glue_ways]
  have HL := hid (letter_c (at8 l k))
  have HD := hid (digit_c (at8 l k))
  generalize (digN (at8 l k) : Int) = D at *
  generalize bI (at8 l k) = c at *
  generalize isLet (at8 l k) = p at *
  generalize e1 : decide (D < 10) = p1 at *
  generalize e2 : (c == 36) = p2 at *
  generalize txB l = S at *
  generalize (k : Int) = K at *
  cases p <;> cases p1 <;> cases p2
  all_goals
   clear hz hlt
   go_enter Tryz.func89, Tryz.ntmps89
   go_wp2_with (first | (go_at_call 64; (with_reducible refine (HL.out _).mono ?_); rintro _ _ ⟨rfl, rfl⟩) | (go_at_call 90; (with_reducible refine (HD.out _).mono ?_); rintro _ _ ⟨rfl, rfl⟩))
   go_ret
   exact ⟨rfl, rfl⟩
 ·have hd : decide ((k : Int) < ((txB l).size : Int)) = false := decide_eq_false (by omega)
  rw [glueAt_end l k (by omega)]
  generalize txB l = S at *
  generalize (k : Int) = K at *
  clear hz hlt
  go_enter Tryz.func89, Tryz.ntmps89
  go_wp2
  go_ret
  exact ⟨rfl, rfl⟩
theorem min_if (x : Int) : (if x < 65536 then x else 65536) = min 65536 x := by split <;> omega
theorem numV_stop (base : Nat) (l : List UInt8) (k : Nat) (n : Int) (h : l.length ≤ k) : numV base (l.drop k) n = n := by rw [List.drop_eq_nil_of_le h]; rfl
theorem numV_no (base : Nat) (l : List UInt8) (k : Nat) (n : Int) (h : k < l.length) (hp : isDig base (at8 l k) = false) : numV base (l.drop k) n = n := by
 rw [List.drop_eq_getElem_cons h]
 rw [at8_get l k h] at hp
 show (if _ then _ else _) = _
 rw [hp]
 rfl
theorem numV_yes (base : Nat) (l : List UInt8) (k : Nat) (n : Int) (h : k < l.length) (hp : isDig base (at8 l k) = true) : numV base (l.drop k) n = numV base (l.drop (k + 1)) (min 65536 (n * base + digN (at8 l k))) := by
 rw [List.drop_eq_getElem_cons h]
 rw [at8_get l k h] at hp ⊢
 show (if _ then _ else _) = _
 rw [hp]
 rfl
set_option maxHeartbeats 2000000 in
theorem number_c (l : List UInt8) (hl : l.length ≤ 100000) (k0 : Nat) (h0 : k0 ≤ l.length) (base : Nat) (hb : base ≤ 16) (w : World) :
  Calls Tryz.prog 91 #[.string (txB l), .int .i64 (k0 : Int), .int .i64 (base : Int)] w fun e w' => e = .returned (.tuple #[.int .i64 (numV base (l.drop k0) 0), .int .i64 (runL (isDig base) l k0 : Nat)]) ∧ w = w' := by
 obtain ⟨V, hV⟩ : ∃ V, numV base (l.drop k0) 0 = V := ⟨_, rfl⟩
 obtain ⟨R, hR⟩ : ∃ R, runL (isDig base) l k0 = R := ⟨_, rfl⟩
 rw [hV, hR]
 have HV := hid hV
 have HR := hid hR
 have HL := hid hl
 have HK := hid h0
 have HZ := hid (txB_size l)
 have Hb := hid hb
 clear hV hR hl h0 hb
 generalize hS : txB l = S at *
 have HS := hid hS
 clear hS
 generalize hB : (base : Int) = B at *
 have HB := hid hB
 clear hB
 generalize hK0 : (k0 : Int) = K0 at *
 have HK0 := hid hK0
 clear hK0
 go_enter Tryz.func91, Tryz.ntmps91
 go_wp2
 go_loop [1, 8] (fun i n => ∃ (k : Nat) (K N : Int), i = .int .i64 K ∧ n = .int .i64 N ∧ Hid (K = k ∧ k ≤ l.length ∧ 0 ≤ N ∧ N ≤ 65536 ∧ numV base (l.drop k) N = V ∧ runL (isDig base) l k = R)) (fun i n => l.length - (intOf i).toNat)
 case atStart => exact ⟨k0, K0, 0, rfl, rfl, hid ⟨HK0.out.symm, HK.out, by omega, by omega, HV.out, HR.out⟩⟩
 case round =>
  obtain ⟨k, K, N, rfl, rfl, HQ⟩ := hrel
  obtain ⟨q1, q2, q3, q4, q5, q6⟩ := HQ.out
  have hz := HZ.out
  by_cases hlt : k < l.length
  ·have hd : decide (K < (S.size : Int)) = true := decide_eq_true (by omega)
   have q := fun W => by have := ix_l l k hlt K q1 W; rw [HS.out] at this; exact this
   have HD := hid (digit_c (at8 l k))
   have hdl := dig_lt (at8 l k) base
   have hD := digN_lt (at8 l k)
   rw [HB.out] at hdl
   have hl := HL.out
   have hb16 := Hb.out
   have hB := HB.out
   have hN0 : 0 ≤ N * B := Int.mul_nonneg q3 (by omega)
   have hN1 : N * B ≤ 65536 * 16 := Int.mul_le_mul q4 (by omega) (by omega) (by omega)
   have w1 : IntKind.i64.wrap (N * B) = N * B := IntWalk.i64_in _ (by omega)
   cases e : isDig base (at8 l k)
   ·have g1 := numV_no base l k N hlt e
    have g2 := runL_no (isDig base) l k hlt (by rw [← at8_get l k hlt]; exact e)
    have HF := hid (show N = V ∧ k = R from ⟨by rw [← q5, g1], by rw [← q6, g2]⟩)
    rw [e] at hdl
    generalize (digN (at8 l k) : Int) = D at *
    generalize bI (at8 l k) = c at *
    clear g1 g2 e q2 q3 q4 q5 q6 hz hlt hl hb16 hB hN0 hN1 w1
    have HQ1 := hid q1
    clear q1
    go_wp2_with (go_at_call 90; (with_reducible refine (HD.out _).mono ?_); rintro _ _ ⟨rfl, rfl⟩)
    refine bodyPost_ret (v := .tuple #[.int .i64 N, .int .i64 K]) (by simp [results, Tryz.results91, go_sem]) rfl ⟨by rw [HF.out.1, HQ1.out, HF.out.2], rfl⟩
   ·have g1 := numV_yes base l k N hlt e
    have g2 := runL_yes (isDig base) l k hlt (by rw [← at8_get l k hlt]; exact e)
    rw [e] at hdl
    have w2 : IntKind.i64.wrap (N * B + (digN (at8 l k) : Int)) = N * B + (digN (at8 l k) : Int) := IntWalk.i64_in _ (by omega)
    have w3 : IntKind.i64.wrap (K + 1) = K + 1 := IntWalk.i64_in _ (by omega)
    have HN := hid (show K + 1 = ((k + 1 : Nat) : Int) ∧ k + 1 ≤ l.length ∧ 0 ≤ min 65536 (N * B + (digN (at8 l k) : Int)) ∧ min 65536 (N * B + (digN (at8 l k) : Int)) ≤ 65536 ∧ numV base (l.drop (k + 1)) (min 65536 (N * B + (digN (at8 l k) : Int))) = V ∧ runL (isDig base) l (k + 1) = R from
     ⟨by omega, by omega, by omega, by omega, by rw [← q5, g1, hB], by rw [← q6, g2]⟩)
    generalize (digN (at8 l k) : Int) = D at *
    generalize bI (at8 l k) = c at *
    have HQ1 := hid (And.intro q1 hlt)
    clear g1 g2 e q1 q2 q3 q4 q5 q6 hz hlt hl hb16 hB hN0 hN1
    go_wp2_with (go_at_call 90; (with_reducible refine (HD.out _).mono ?_); rintro _ _ ⟨rfl, rfl⟩)
    go_round
    case rel => exact ⟨k + 1, K + 1, _, rfl, rfl, by rw [min_if]; exact HN⟩
    case measure => have := HQ1.out; simp only [intOf]; omega
  ·have hd : decide (K < (S.size : Int)) = false := decide_eq_false (by omega)
   have HF := hid (show N = V ∧ K = R from ⟨by rw [← q5, numV_stop base l k N (by omega)], by rw [← q6, runL_stop (isDig base) l k (by omega)]; exact q1⟩)
   clear q1 q2 q3 q4 q5 q6 hz hlt HQ
   go_wp2
   refine bodyPost_ret (v := .tuple #[.int .i64 N, .int .i64 K]) (by simp [results, Tryz.results91, go_sem]) rfl ⟨by rw [HF.out.1, HF.out.2], rfl⟩
def oneV (o : OneT) (at' : Nat) : Value := .tuple #[.agg #[.int .i64 o.k, .string (txB o.t), .int .i64 o.n, .int .i64 0, .int .i64 0], .int .i64 (if o.e = 0 then (at' : Int) + o.len else 0), .int .i64 o.e]
theorem runL_drop (p : UInt8 → Bool) (l : List UInt8) (j k : Nat) : j + runL p (l.drop j) k = runL p l (j + k) := by
 unfold runL
 rw [List.drop_drop]
 omega
theorem glueAt_drop (l : List UInt8) (j k : Nat) : glueAt (l.drop j) k = glueAt l (j + k) := by
 unfold glueAt
 rw [List.getElem?_drop]
theorem drop_get0 (l : List UInt8) (k : Nat) (h : k < l.length) : (l.drop k)[0]? = some (at8 l k) := by
 rw [List.getElem?_drop, Nat.add_zero, at8_some l k h]
theorem oneD_word (l : List UInt8) (k : Nat) (h : k < l.length) (hc : isLet (at8 l k) = true) : oneD (l.drop k) = oneWord (l.drop k) := by
 unfold oneD; rw [drop_get0 l k h]; dsimp only; rw [if_pos hc]
theorem oneD_dot (l : List UInt8) (k : Nat) (h : k < l.length) (hc : isLet (at8 l k) = false) (hd : at8 l k = 46) : oneD (l.drop k) = (if (l.drop k)[1]? = some 46 then ⟨3, [], 0, 2, 0⟩ else oneNo 11) := by
 unfold oneD; rw [drop_get0 l k h]; dsimp only; rw [if_neg (by rw [hc]; simp), if_pos hd]
theorem oneD_hex (l : List UInt8) (k : Nat) (h : k < l.length) (hc : isLet (at8 l k) = false) (hd : at8 l k = 36) : oneD (l.drop k) = oneNum 16 (l.drop k) 1 := by
 unfold oneD; rw [drop_get0 l k h]; dsimp only; rw [if_neg (by rw [hc]; simp), if_neg (by rw [hd]; decide), if_pos hd]
theorem oneD_dec (l : List UInt8) (k : Nat) (h : k < l.length) (hc : isLet (at8 l k) = false) (hd : isDig 10 (at8 l k) = true) (h46 : at8 l k ≠ 46) (h36 : at8 l k ≠ 36) : oneD (l.drop k) = oneNum 10 (l.drop k) 0 := by
 unfold oneD; rw [drop_get0 l k h]; dsimp only; rw [if_neg (by rw [hc]; simp), if_neg h46, if_neg h36, if_pos hd]
theorem oneD_no (l : List UInt8) (k : Nat) (h : k < l.length) (hc : isLet (at8 l k) = false) (hd : isDig 10 (at8 l k) = false) (h46 : at8 l k ≠ 46) (h36 : at8 l k ≠ 36) : oneD (l.drop k) = oneNo 22 := by
 unfold oneD; rw [drop_get0 l k h]; dsimp only; rw [if_neg (by rw [hc]; simp), if_neg h46, if_neg h36, if_neg (by rw [hd]; simp)]
theorem oneNum_at (base : Nat) (l : List UInt8) (k j : Nat) : oneNum base (l.drop k) j = (if runL (isDig base) l (k + j) = k + j ∨ glueAt l (runL (isDig base) l (k + j)) = true then oneNo 11 else if 65535 < numV base (l.drop (k + j)) 0 then oneNo 10 else ⟨2, [], numV base (l.drop (k + j)) 0, runL (isDig base) l (k + j) - k, 0⟩) := by
 unfold oneNum
 have h1 := runL_drop (isDig base) l k j
 have h2 : runL (isDig base) (l.drop k) j = runL (isDig base) l (k + j) - k := by omega
 dsimp only
 rw [h2, glueAt_drop, List.drop_drop]
 have h3 := runL_ge (isDig base) l (k + j)
 rw [show k + (runL (isDig base) l (k + j) - k) = runL (isDig base) l (k + j) from by omega]
 congr 1
 rw [eq_iff_iff]
 constructor
 ·rintro (h | h)
  ·exact .inl (by omega)
  ·exact .inr h
 ·rintro (h | h)
  ·exact .inl (by omega)
  ·exact .inr h
theorem oneWord_at (l : List UInt8) (k : Nat) : oneWord (l.drop k) = (if glueAt l (runL isLet l k) = true then oneNo 11 else ⟨1, (l.take (runL isLet l k)).drop k, 0, runL isLet l k - k, 0⟩) := by
 unfold oneWord
 have h1 := runL_drop isLet l k 0
 rw [Nat.add_zero] at h1
 have h2 : runL isLet (l.drop k) 0 = runL isLet l k - k := by omega
 have h3 := runL_ge isLet l k
 dsimp only
 rw [h2, glueAt_drop, show k + (runL isLet l k - k) = runL isLet l k from by omega, List.drop_take]
set_option maxHeartbeats 2000000 in
theorem one_word (l : List UInt8) (hl : l.length ≤ 100000) (k0 : Nat) (h0 : k0 < l.length) (hc : isLet (at8 l k0) = true) (w : World) :
  Calls Tryz.prog 77 #[.string (txB l), .int .i64 (k0 : Int)] w fun e w' => e = .returned (oneV (oneD (l.drop k0)) k0) ∧ Below w.heap.size w w' := by
 rw [oneD_word l k0 h0 hc, oneWord_at]
 obtain ⟨R, hR⟩ : ∃ R, runL isLet l k0 = R := ⟨_, rfl⟩
 have hRl := runL_le isLet l k0 (by omega)
 have hRg := runL_ge isLet l k0
 rw [hR] at hRl hRg ⊢
 obtain ⟨O, hO⟩ : ∃ O, oneV (if glueAt l R = true then oneNo 11 else ⟨1, (l.take R).drop k0, 0, R - k0, 0⟩) k0 = O := ⟨_, rfl⟩
 rw [hO]
 have HO := hid (show (glueAt l R = true → O = .tuple #[.agg #[.int .i64 0, .string ⟨#[]⟩, .int .i64 0, .int .i64 0, .int .i64 0], .int .i64 0, .int .i64 11]) ∧ (glueAt l R = false → O = .tuple #[.agg #[.int .i64 1, .string (txB ((l.take R).drop k0)), .int .i64 0, .int .i64 0, .int .i64 0], .int .i64 (R : Int), .int .i64 0]) from by
  rw [← hO]
  constructor
  ·intro h; rw [if_pos h]; rfl
  ·intro h
   rw [if_neg (by rw [h]; simp)]
   unfold oneV
   dsimp only
   rw [if_pos rfl, show (k0 : Int) + ((R - k0 : Nat) : Int) = (R : Int) from by omega])
 have HR := hid (And.intro hR (And.intro hRl hRg))
 have HL := hid hl
 have HZ := hid (txB_size l)
 have qi := ix_l l k0 h0 k0 rfl
 have HC := hid (fun w => letter_c (at8 l k0) w)
 rw [hc] at HC
 have HG := hid (glued_c l R)
 have hsl : ∀ W, (Instr.slice 9 (.string (txB l)) (some (.int .i64 (k0 : Int))) (some (.int .i64 (R : Int))) none).run Tryz.prog W = .ok (.string (txB ((l.take R).drop k0))) W := fun W => by
  rw [run_slice_string _ _ _ _ _ _ _ Tryz.underlying9 (by omega) (by omega) (by rw [txB_size]; omega)]
  rw [Int.toNat_natCast, Int.toNat_natCast, txB_extract]
 clear hO hR hl hc hRl hRg
 have HK := hid h0
 generalize hS : txB l = S at *
 have HS := hid hS
 clear hS h0
 generalize hK0 : (k0 : Int) = K0 at *
 have HK0 := hid hK0
 clear hK0
 generalize txB ((l.take R).drop k0) = T at *
 generalize hRI : (R : Int) = RI at *
 have HRI := hid hRI
 clear hRI
 generalize hcI : bI (at8 l k0) = cI at *
 clear hcI
 go_enter Tryz.func77, Tryz.ntmps77
 go_wp2_with (go_at_call 64; (with_reducible refine (HC.out _).mono ?_); rintro _ _ ⟨rfl, rfl⟩)
 go_loop [7] (fun i => ∃ (k : Nat) (K : Int), i = .int .i64 K ∧ Hid (K = k ∧ k ≤ l.length ∧ runL isLet l k = R)) (fun i => l.length - (intOf i).toNat)
 case atStart => exact ⟨k0, K0, rfl, hid ⟨HK0.out.symm, by have := HK.out; omega, HR.out.1⟩⟩
 case round =>
  obtain ⟨k, K, rfl, HQ⟩ := hrel
  obtain ⟨q1, q2, q3⟩ := HQ.out
  have hz := HZ.out
  by_cases hlt : k < l.length
  ·have hd : decide (K < (S.size : Int)) = true := decide_eq_true (by omega)
   have q := fun W => by have := ix_l l k hlt K q1 W; rw [HS.out] at this; exact this
   have HD := hid (fun w => letter_c (at8 l k) w)
   have hl := HL.out
   cases e : isLet (at8 l k)
   ·rw [e] at HD
    obtain rfl : K = RI := by rw [q1, ← HRI.out, ← q3, runL_no isLet l k hlt (by rw [← at8_get l k hlt]; exact e)]
    generalize bI (at8 l k) = c at *
    clear e q1 q2 q3 hz hlt hl qi HQ
    cases eg : glueAt l R
    ·rw [eg] at HG
     have HE := hid (HO.out.2 eg)
     clear eg
     go_wp2_with (first | (go_at_call 64; (with_reducible refine (HD.out _).mono ?_); rintro _ _ ⟨rfl, rfl⟩) | (go_at_call 89; (with_reducible refine (HG.out _).mono ?_); rintro _ _ ⟨rfl, rfl⟩))
     refine bodyPost_ret (v := .tuple #[.agg #[.int .i64 1, .string T, .int .i64 0, .int .i64 0, .int .i64 0], .int .i64 K, .int .i64 0]) (by simp [results, Tryz.results77, go_sem]) rfl ⟨by rw [HE.out], by go_grown⟩
    ·rw [eg] at HG
     have HE := hid (HO.out.1 eg)
     clear eg
     go_wp2_with (first | (go_at_call 64; (with_reducible refine (HD.out _).mono ?_); rintro _ _ ⟨rfl, rfl⟩) | (go_at_call 89; (with_reducible refine (HG.out _).mono ?_); rintro _ _ ⟨rfl, rfl⟩))
     refine bodyPost_ret (v := .tuple #[.agg #[.int .i64 0, .string ⟨#[]⟩, .int .i64 0, .int .i64 0, .int .i64 0], .int .i64 0, .int .i64 11]) (by simp [results, Tryz.results77, go_sem]) rfl ⟨by rw [HE.out], by go_grown⟩
   ·have g2 := runL_yes isLet l k hlt (by rw [← at8_get l k hlt]; exact e)
    rw [e] at HD
    have w3 : IntKind.i64.wrap (K + 1) = K + 1 := IntWalk.i64_in _ (by omega)
    have HN := hid (show K + 1 = ((k + 1 : Nat) : Int) ∧ k + 1 ≤ l.length ∧ runL isLet l (k + 1) = R from ⟨by omega, by omega, by rw [← q3, g2]⟩)
    generalize bI (at8 l k) = c at *
    have HQ1 := hid (And.intro q1 hlt)
    clear g2 e q1 q2 q3 hz hlt hl qi
    go_wp2_with (go_at_call 64; (with_reducible refine (HD.out _).mono ?_); rintro _ _ ⟨rfl, rfl⟩)
    go_round
    case rel => exact ⟨k + 1, K + 1, rfl, HN⟩
    case measure => have := HQ1.out; simp only [intOf]; omega
  ·have hd : decide (K < (S.size : Int)) = false := decide_eq_false (by omega)
   have HD : True := trivial
   obtain rfl : K = RI := by rw [q1, ← HRI.out, ← q3, runL_stop isLet l k (by omega)]
   clear q1 q2 q3 hz hlt qi HQ
   cases eg : glueAt l R
   ·rw [eg] at HG
    have HE := hid (HO.out.2 eg)
    clear eg
    go_wp2_with (first | (go_at_call 89; (with_reducible refine (HG.out _).mono ?_); rintro _ _ ⟨rfl, rfl⟩))
    refine bodyPost_ret (v := .tuple #[.agg #[.int .i64 1, .string T, .int .i64 0, .int .i64 0, .int .i64 0], .int .i64 K, .int .i64 0]) (by simp [results, Tryz.results77, go_sem]) rfl ⟨by rw [HE.out], by go_grown⟩
   ·rw [eg] at HG
    have HE := hid (HO.out.1 eg)
    clear eg
    go_wp2_with (first | (go_at_call 89; (with_reducible refine (HG.out _).mono ?_); rintro _ _ ⟨rfl, rfl⟩))
    refine bodyPost_ret (v := .tuple #[.agg #[.int .i64 0, .string ⟨#[]⟩, .int .i64 0, .int .i64 0, .int .i64 0], .int .i64 0, .int .i64 11]) (by simp [results, Tryz.results77, go_sem]) rfl ⟨by rw [HE.out], by go_grown⟩
set_option maxHeartbeats 2000000 in
theorem one_dot (l : List UInt8) (hl : l.length ≤ 100000) (k0 : Nat) (h0 : k0 < l.length) (hc : at8 l k0 = 46) (w : World) :
  Calls Tryz.prog 77 #[.string (txB l), .int .i64 (k0 : Int)] w fun e w' => e = .returned (oneV (oneD (l.drop k0)) k0) ∧ Below w.heap.size w w' := by
 have hlet : isLet (at8 l k0) = false := by rw [hc]; decide
 rw [oneD_dot l k0 h0 hlet hc]
 have HC := hid (fun w => letter_c (at8 l k0) w)
 rw [hlet] at HC
 have qi := ix_l l k0 h0 k0 rfl
 have w1 : IntKind.i64.wrap ((k0 : Int) + 1) = (k0 : Int) + 1 := IntWalk.i64_in _ (by omega)
 have w2 : IntKind.i64.wrap ((k0 : Int) + 2) = (k0 : Int) + 2 := IntWalk.i64_in _ (by omega)
 have p0 : 0 ≤ (k0 : Int) + 1 := by omega
 rw [hc, show bI 46 = 46 from rfl] at HC qi
 have hz := txB_size l
 by_cases hlt : k0 + 1 < l.length
 ·have hd : decide ((k0 : Int) + 1 < ((txB l).size : Int)) = true := decide_eq_true (by omega)
  have q2 := ix_l l (k0 + 1) hlt ((k0 : Int) + 1) (by omega)
  have e3 : (l.drop k0)[1]? = some (at8 l (k0 + 1)) := by rw [List.getElem?_drop, at8_some l (k0 + 1) hlt]
  rw [e3]
  have eb := bI_eq (at8 l (k0 + 1)) 46 46 rfl
  by_cases h2 : at8 l (k0 + 1) = 46
  ·rw [if_pos (by rw [h2])]
   have eb2 : (bI (at8 l (k0 + 1)) == 46) = true := by rw [eb, h2]; rfl
   generalize bI (at8 l (k0 + 1)) = c at *
   generalize txB l = S at *
   have HV := hid (show oneV ⟨3, [], 0, 2, 0⟩ k0 = .tuple #[.agg #[.int .i64 3, .string ⟨#[]⟩, .int .i64 0, .int .i64 0, .int .i64 0], .int .i64 ((k0 : Int) + 2), .int .i64 0] from rfl)
   generalize oneV ⟨3, [], 0, 2, 0⟩ k0 = O at *
   generalize (k0 : Int) = K0 at *
   clear e3 eb h2 hlt hc hlet hz h0 hl
   go_enter Tryz.func77, Tryz.ntmps77
   go_wp2_with (go_at_call 64; (with_reducible refine (HC.out _).mono ?_); rintro _ _ ⟨rfl, rfl⟩)
   refine bodyPost_ret (v := .tuple #[.agg #[.int .i64 3, .string ⟨#[]⟩, .int .i64 0, .int .i64 0, .int .i64 0], .int .i64 (K0 + 2), .int .i64 0]) (by simp [results, Tryz.results77, go_sem]) rfl ⟨by rw [HV.out], by go_grown⟩
  ·rw [if_neg (by intro h; exact h2 (Option.some.inj h))]
   have eb2 : (bI (at8 l (k0 + 1)) == 46) = false := by rw [eb]; exact beq_eq_false_iff_ne.2 h2
   generalize bI (at8 l (k0 + 1)) = c at *
   generalize txB l = S at *
   have HV := hid (show oneV (oneNo 11) k0 = .tuple #[.agg #[.int .i64 0, .string ⟨#[]⟩, .int .i64 0, .int .i64 0, .int .i64 0], .int .i64 0, .int .i64 11] from rfl)
   generalize oneV (oneNo 11) k0 = O at *
   generalize (k0 : Int) = K0 at *
   clear e3 eb h2 hlt hc hlet hz h0 hl
   go_enter Tryz.func77, Tryz.ntmps77
   go_wp2_with (go_at_call 64; (with_reducible refine (HC.out _).mono ?_); rintro _ _ ⟨rfl, rfl⟩)
   refine bodyPost_ret (v := .tuple #[.agg #[.int .i64 0, .string ⟨#[]⟩, .int .i64 0, .int .i64 0, .int .i64 0], .int .i64 0, .int .i64 11]) (by simp [results, Tryz.results77, go_sem]) rfl ⟨by rw [HV.out], by go_grown⟩
 ·have hd : decide ((k0 : Int) + 1 < ((txB l).size : Int)) = false := decide_eq_false (by omega)
  have e3 : (l.drop k0)[1]? = none := by rw [List.getElem?_drop, List.getElem?_eq_none (by omega)]
  rw [e3, if_neg (by simp)]
  generalize txB l = S at *
  have HV := hid (show oneV (oneNo 11) k0 = .tuple #[.agg #[.int .i64 0, .string ⟨#[]⟩, .int .i64 0, .int .i64 0, .int .i64 0], .int .i64 0, .int .i64 11] from rfl)
  generalize oneV (oneNo 11) k0 = O at *
  generalize (k0 : Int) = K0 at *
  clear e3 hlt hc hlet hz h0 hl
  go_enter Tryz.func77, Tryz.ntmps77
  go_wp2_with (go_at_call 64; (with_reducible refine (HC.out _).mono ?_); rintro _ _ ⟨rfl, rfl⟩)
  refine bodyPost_ret (v := .tuple #[.agg #[.int .i64 0, .string ⟨#[]⟩, .int .i64 0, .int .i64 0, .int .i64 0], .int .i64 0, .int .i64 11]) (by simp [results, Tryz.results77, go_sem]) rfl ⟨by rw [HV.out], by go_grown⟩
set_option maxHeartbeats 2000000 in
theorem one_no (l : List UInt8) (hl : l.length ≤ 100000) (k0 : Nat) (h0 : k0 < l.length) (hc : isLet (at8 l k0) = false) (hd : isDig 10 (at8 l k0) = false) (h46 : at8 l k0 ≠ 46) (h36 : at8 l k0 ≠ 36) (w : World) :
  Calls Tryz.prog 77 #[.string (txB l), .int .i64 (k0 : Int)] w fun e w' => e = .returned (oneV (oneD (l.drop k0)) k0) ∧ Below w.heap.size w w' := by
 rw [oneD_no l k0 h0 hc hd h46 h36]
 have HC := hid (fun w => letter_c (at8 l k0) w)
 rw [hc] at HC
 have HD := hid (fun w => digit_c (at8 l k0) w)
 have qi := ix_l l k0 h0 k0 rfl
 have e46 : (bI (at8 l k0) == 46) = false := by rw [bI_eq _ 46 46 rfl]; exact beq_eq_false_iff_ne.2 h46
 have e36 : (bI (at8 l k0) == 36) = false := by rw [bI_eq _ 36 36 rfl]; exact beq_eq_false_iff_ne.2 h36
 have e9 : decide (9 < (digN (at8 l k0) : Int)) = true := by
  have := dig_lt (at8 l k0) 10
  rw [hd] at this
  have := of_decide_eq_false this
  exact decide_eq_true (by omega)
 have HV := hid (show oneV (oneNo 22) k0 = .tuple #[.agg #[.int .i64 0, .string ⟨#[]⟩, .int .i64 0, .int .i64 0, .int .i64 0], .int .i64 0, .int .i64 22] from rfl)
 generalize oneV (oneNo 22) k0 = O at *
 generalize (digN (at8 l k0) : Int) = D at *
 generalize bI (at8 l k0) = c at *
 generalize txB l = S at *
 generalize (k0 : Int) = K0 at *
 clear hc hd h46 h36 h0 hl
 go_enter Tryz.func77, Tryz.ntmps77
 go_wp2_with (first | (go_at_call 64; (with_reducible refine (HC.out _).mono ?_); rintro _ _ ⟨rfl, rfl⟩) | (go_at_call 90; (with_reducible refine (HD.out _).mono ?_); rintro _ _ ⟨rfl, rfl⟩))
 refine bodyPost_ret (v := .tuple #[.agg #[.int .i64 0, .string ⟨#[]⟩, .int .i64 0, .int .i64 0, .int .i64 0], .int .i64 0, .int .i64 22]) (by simp [results, Tryz.results77, go_sem]) rfl ⟨by rw [HV.out], by go_grown⟩
theorem oneNum_ways (base : Nat) (l : List UInt8) (k j : Nat) (hk : k + j ≤ l.length) : ∃ (N : Int) (R : Nat) (q g : Bool), numV base (l.drop (k + j)) 0 = N ∧ runL (isDig base) l (k + j) = R ∧ R ≤ l.length ∧ k + j ≤ R ∧ (((R : Int) == ((k + j : Nat) : Int)) = q) ∧ glueAt l R = g ∧
  ((q = true ∧ oneV (oneNum base (l.drop k) j) k = .tuple #[.agg #[.int .i64 0, .string ⟨#[]⟩, .int .i64 0, .int .i64 0, .int .i64 0], .int .i64 0, .int .i64 11]) ∨
   (q = false ∧ g = true ∧ oneV (oneNum base (l.drop k) j) k = .tuple #[.agg #[.int .i64 0, .string ⟨#[]⟩, .int .i64 0, .int .i64 0, .int .i64 0], .int .i64 0, .int .i64 11]) ∨
   (q = false ∧ g = false ∧ decide (65535 < N) = true ∧ oneV (oneNum base (l.drop k) j) k = .tuple #[.agg #[.int .i64 0, .string ⟨#[]⟩, .int .i64 0, .int .i64 0, .int .i64 0], .int .i64 0, .int .i64 10]) ∨
   (q = false ∧ g = false ∧ decide (65535 < N) = false ∧ oneV (oneNum base (l.drop k) j) k = .tuple #[.agg #[.int .i64 2, .string ⟨#[]⟩, .int .i64 N, .int .i64 0, .int .i64 0], .int .i64 (R : Int), .int .i64 0])) := by
 refine ⟨_, _, _, _, rfl, rfl, runL_le _ _ _ hk, runL_ge _ _ _, rfl, rfl, ?_⟩
 rw [oneNum_at]
 have hg := runL_ge (isDig base) l (k + j)
 generalize runL (isDig base) l (k + j) = R at *
 generalize numV base (l.drop (k + j)) 0 = N at *
 by_cases h1 : R = k + j
 ·left
  refine ⟨by rw [h1]; simp, ?_⟩
  rw [if_pos (.inl h1)]; rfl
 ·have q0 : (((R : Nat) : Int) == ((k + j : Nat) : Int)) = false := beq_eq_false_iff_ne.2 (by omega)
  right
  cases hgl : glueAt l R
  ·right
   rw [if_neg (by rintro (h | h); exact h1 h; cases h)]
   by_cases h2 : 65535 < N
   ·left
    rw [if_pos h2]
    exact ⟨q0, rfl, decide_eq_true h2, rfl⟩
   ·right
    rw [if_neg h2]
    refine ⟨q0, rfl, decide_eq_false h2, ?_⟩
    unfold oneV
    dsimp only
    rw [if_pos rfl, show (k : Int) + ((R - k : Nat) : Int) = (R : Int) from by omega]
  ·left
   rw [if_pos (.inr rfl)]
   exact ⟨q0, rfl, rfl⟩
set_option maxHeartbeats 4000000 in
theorem one_hex (l : List UInt8) (hl : l.length ≤ 100000) (k0 : Nat) (h0 : k0 < l.length) (hc : at8 l k0 = 36) (w : World) :
  Calls Tryz.prog 77 #[.string (txB l), .int .i64 (k0 : Int)] w fun e w' => e = .returned (oneV (oneD (l.drop k0)) k0) ∧ Below w.heap.size w w' := by
 have hlet : isLet (at8 l k0) = false := by rw [hc]; decide
 rw [oneD_hex l k0 h0 hlet hc]
 have HC := hid (fun w => letter_c (at8 l k0) w)
 rw [hlet] at HC
 have qi := ix_l l k0 h0 k0 rfl
 have HD := hid (fun w => digit_c (at8 l k0) w)
 have e46 : (bI (at8 l k0) == 46) = false := by rw [hc]; rfl
 have e36 : (bI (at8 l k0) == 36) = true := by rw [hc]; rfl
 have w1 : IntKind.i64.wrap ((k0 : Int) + 1) = (k0 : Int) + 1 := IntWalk.i64_in _ (by omega)
 obtain ⟨N, R, q, g, hN, hR, hRl, hRg, hq, hg, hw⟩ := oneNum_ways 16 l k0 1 (by omega)
 have HNum := hid (number_c l hl (k0 + 1) (by omega) 16 (by omega))
 have HG := hid (glued_c l R)
 rw [hg] at HG
 rw [hN, hR, show ((16 : Nat) : Int) = 16 from rfl] at HNum
 have ek : ((k0 + 1 : Nat) : Int) = (k0 : Int) + 1 := by omega
 rw [ek] at HNum hq
 generalize oneV (oneNum 16 (l.drop k0) 1) k0 = O at *
 generalize (digN (at8 l k0) : Int) = D at *
 generalize bI (at8 l k0) = c at *
 generalize txB l = S at *
 generalize (k0 : Int) = K0 at *
 generalize (R : Int) = RI at *
 clear hN hR hRl hRg hg ek h0 hl hlet hc
 rcases hw with ⟨rfl, HO⟩ | ⟨rfl, rfl, HO⟩ | ⟨rfl, rfl, hn, HO⟩ | ⟨rfl, rfl, hn, HO⟩
 all_goals
  have HO2 := hid HO
  clear HO
  go_enter Tryz.func77, Tryz.ntmps77
  go_wp2_with (first | (go_at_call 64; (with_reducible refine (HC.out _).mono ?_); rintro _ _ ⟨rfl, rfl⟩) | (go_at_call 90; (with_reducible refine (HD.out _).mono ?_); rintro _ _ ⟨rfl, rfl⟩) | (go_at_call 91; (with_reducible refine (HNum.out _).mono ?_); rintro _ _ ⟨rfl, rfl⟩) | (go_at_call 89; (with_reducible refine (HG.out _).mono ?_); rintro _ _ ⟨rfl, rfl⟩))
 ·refine bodyPost_ret (v := .tuple #[.agg #[.int .i64 0, .string ⟨#[]⟩, .int .i64 0, .int .i64 0, .int .i64 0], .int .i64 0, .int .i64 11]) (by simp [results, Tryz.results77, go_sem]) rfl ⟨by rw [HO2.out], by go_grown⟩
 ·refine bodyPost_ret (v := .tuple #[.agg #[.int .i64 0, .string ⟨#[]⟩, .int .i64 0, .int .i64 0, .int .i64 0], .int .i64 0, .int .i64 11]) (by simp [results, Tryz.results77, go_sem]) rfl ⟨by rw [HO2.out], by go_grown⟩
 ·refine bodyPost_ret (v := .tuple #[.agg #[.int .i64 0, .string ⟨#[]⟩, .int .i64 0, .int .i64 0, .int .i64 0], .int .i64 0, .int .i64 10]) (by simp [results, Tryz.results77, go_sem]) rfl ⟨by rw [HO2.out], by go_grown⟩
 ·refine bodyPost_ret (v := .tuple #[.agg #[.int .i64 2, .string ⟨#[]⟩, .int .i64 N, .int .i64 0, .int .i64 0], .int .i64 RI, .int .i64 0]) (by simp [results, Tryz.results77, go_sem]) rfl ⟨by rw [HO2.out], by go_grown⟩
set_option maxHeartbeats 4000000 in
theorem one_dec (l : List UInt8) (hl : l.length ≤ 100000) (k0 : Nat) (h0 : k0 < l.length) (hlet : isLet (at8 l k0) = false) (hd : isDig 10 (at8 l k0) = true) (h46 : at8 l k0 ≠ 46) (h36 : at8 l k0 ≠ 36) (w : World) :
  Calls Tryz.prog 77 #[.string (txB l), .int .i64 (k0 : Int)] w fun e w' => e = .returned (oneV (oneD (l.drop k0)) k0) ∧ Below w.heap.size w w' := by
 rw [oneD_dec l k0 h0 hlet hd h46 h36]
 have HC := hid (fun w => letter_c (at8 l k0) w)
 rw [hlet] at HC
 have qi := ix_l l k0 h0 k0 rfl
 have HD := hid (fun w => digit_c (at8 l k0) w)
 have e46 : (bI (at8 l k0) == 46) = false := by rw [bI_eq _ 46 46 rfl]; exact beq_eq_false_iff_ne.2 h46
 have e36 : (bI (at8 l k0) == 36) = false := by rw [bI_eq _ 36 36 rfl]; exact beq_eq_false_iff_ne.2 h36
 have e9 : decide (9 < (digN (at8 l k0) : Int)) = false := by
  have := dig_lt (at8 l k0) 10
  rw [hd] at this
  have := of_decide_eq_true this
  exact decide_eq_false (by omega)
 obtain ⟨N, R, q, g, hN, hR, hRl, hRg, hq, hg, hw⟩ := oneNum_ways 10 l k0 0 (by omega)
 have HNum := hid (number_c l hl (k0 + 0) (by omega) 10 (by omega))
 have HG := hid (glued_c l R)
 rw [hg] at HG
 rw [hN, hR, show ((10 : Nat) : Int) = 10 from rfl] at HNum
 have ek : ((k0 + 0 : Nat) : Int) = (k0 : Int) := by omega
 rw [ek] at HNum hq
 generalize oneV (oneNum 10 (l.drop k0) 0) k0 = O at *
 generalize (digN (at8 l k0) : Int) = D at *
 generalize bI (at8 l k0) = c at *
 generalize txB l = S at *
 generalize (k0 : Int) = K0 at *
 generalize (R : Int) = RI at *
 clear hN hR hRl hRg hg ek h0 hl hlet hd h46 h36
 rcases hw with ⟨rfl, HO⟩ | ⟨rfl, rfl, HO⟩ | ⟨rfl, rfl, hn, HO⟩ | ⟨rfl, rfl, hn, HO⟩
 all_goals
  have HO2 := hid HO
  clear HO
  go_enter Tryz.func77, Tryz.ntmps77
  go_wp2_with (first | (go_at_call 64; (with_reducible refine (HC.out _).mono ?_); rintro _ _ ⟨rfl, rfl⟩) | (go_at_call 90; (with_reducible refine (HD.out _).mono ?_); rintro _ _ ⟨rfl, rfl⟩) | (go_at_call 91; (with_reducible refine (HNum.out _).mono ?_); rintro _ _ ⟨rfl, rfl⟩) | (go_at_call 89; (with_reducible refine (HG.out _).mono ?_); rintro _ _ ⟨rfl, rfl⟩))
 ·refine bodyPost_ret (v := .tuple #[.agg #[.int .i64 0, .string ⟨#[]⟩, .int .i64 0, .int .i64 0, .int .i64 0], .int .i64 0, .int .i64 11]) (by simp [results, Tryz.results77, go_sem]) rfl ⟨by rw [HO2.out], by go_grown⟩
 ·refine bodyPost_ret (v := .tuple #[.agg #[.int .i64 0, .string ⟨#[]⟩, .int .i64 0, .int .i64 0, .int .i64 0], .int .i64 0, .int .i64 11]) (by simp [results, Tryz.results77, go_sem]) rfl ⟨by rw [HO2.out], by go_grown⟩
 ·refine bodyPost_ret (v := .tuple #[.agg #[.int .i64 0, .string ⟨#[]⟩, .int .i64 0, .int .i64 0, .int .i64 0], .int .i64 0, .int .i64 10]) (by simp [results, Tryz.results77, go_sem]) rfl ⟨by rw [HO2.out], by go_grown⟩
 ·refine bodyPost_ret (v := .tuple #[.agg #[.int .i64 2, .string ⟨#[]⟩, .int .i64 N, .int .i64 0, .int .i64 0], .int .i64 RI, .int .i64 0]) (by simp [results, Tryz.results77, go_sem]) rfl ⟨by rw [HO2.out], by go_grown⟩
theorem one_c (l : List UInt8) (hl : l.length ≤ 100000) (k0 : Nat) (h0 : k0 < l.length) (w : World) :
  Calls Tryz.prog 77 #[.string (txB l), .int .i64 (k0 : Int)] w fun e w' => e = .returned (oneV (oneD (l.drop k0)) k0) ∧ Below w.heap.size w w' := by
 cases hlet : isLet (at8 l k0)
 ·by_cases h46 : at8 l k0 = 46
  ·exact one_dot l hl k0 h0 h46 w
  ·by_cases h36 : at8 l k0 = 36
   ·exact one_hex l hl k0 h0 h36 w
   ·cases hd : isDig 10 (at8 l k0)
    ·exact one_no l hl k0 h0 hlet hd h46 h36 w
    ·exact one_dec l hl k0 h0 hlet hd h46 h36 w
 ·exact one_word l hl k0 h0 hlet w
end Go.Proofs.YtjcmblbnbpikfaaGreatDoor
