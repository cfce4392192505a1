/-
  What the document's answer of layer 2 comes to: its numbers.
-/
import Derived.Test.YtdmgdldadpkhgaaVal
import Derived.Test.YtdmgdldadpkhgaaPlanT
import Derived.Test.YtdmgdldadpkhgaaHeld
import Derived.Lib.Hide
set_option linter.unusedSimpArgs false
set_option linter.unusedVariables false
namespace Go.Proofs.Ytdmgdldadpkhgaa
open Go.RowKit

abbrev RV (s : SV) : Value := .agg #[.int .i64 (u8 s.a), .bool s.n, .bool s.v, .bool s.z, .bool s.c]
theorem one_r (c : Bool) (w : World) : Calls Try.prog 33 #[.bool c] w fun e w' => e = .returned (.int .i64 (cnt c)) ∧ w = w' := by
  cases c
  all_goals
    go_enter Try.func33, Try.ntmps33
    go_wp2
    go_ret
    exact ⟨rfl, rfl⟩
theorem one_b (c : Bool) (w : World) : Calls Try.prog 33 #[.bool c] w fun e w' => e = .returned (.int .i64 (cnt c)) ∧ Below w.heap.size w w' :=
  (one_r c w).mono fun _ _ ⟨h1, h2⟩ => ⟨h1, by subst h2; exact Below.refl _ _⟩
theorem signed_r (n : Int) (h : 0 ≤ n) (h' : n < 256) (w : World) : Calls Try.prog 52 #[.int .i64 n] w fun e w' => e = .returned (.int .i64 (sgn n)) ∧ w = w' := by
  by_cases hn : 128 ≤ n
  all_goals
    go_enter Try.func52, Try.ntmps52
    go_wp2
    go_ret
    exact ⟨by simp only [sgn]; (try simp only [hn, if_true, if_false]); (try rfl); (try (rw [if_neg (by omega)]; rfl)), rfl⟩
theorem signedx_r (x : BitVec 8) (w : World) : Calls Try.prog 52 #[.int .i64 (u8 x)] w fun e w' => e = .returned (.int .i64 (sgn (u8 x))) ∧ w = w' :=
  signed_r (u8 x) (u8_lo x) (u8_hi x) w
theorem signedh_r (x : BitVec 8) (w : World) : Calls Try.prog 52 #[.int .i64 (hi x)] w fun e w' => e = .returned (.int .i64 (sgn (hi x))) ∧ w = w' :=
  signed_r (hi x) (hi_lo x) (by have := hi_hi x; omega) w
theorem beyond_r (n : Int) (h : -512 ≤ n) (h' : n < 512) (w : World) : Calls Try.prog 51 #[.int .i64 n] w fun e w' => e = .returned (.bool (bey n)) ∧ w = w' := by
  by_cases h1 : n < -128
  · go_enter Try.func51, Try.ntmps51
    go_wp2
    go_ret
    exact ⟨by simp [bey, h1], rfl⟩
  · by_cases h2 : 127 < n
    all_goals
      go_enter Try.func51, Try.ntmps51
      go_wp2
      go_ret
      exact ⟨by simp only [bey, h1, decide_false, Bool.false_or]; congr 2; (try simp); (try omega), rfl⟩
theorem tm (n m : Int) (h : 0 ≤ n) : n.tmod m = n % m := Int.tmod_eq_emod_of_nonneg h
theorem modulo_eq (n m : Int) (hm : 0 < m) : (n.tmod m + m).tmod m = n % m := by
  have h1 : -m < n.tmod m := Int.lt_tmod_of_pos n hm
  rw [Int.tmod_eq_emod_of_nonneg (by omega), Int.add_emod_right]
  have e := Int.mul_tdiv_add_tmod n m
  calc n.tmod m % m = (m * n.tdiv m + n.tmod m) % m := by rw [Int.mul_add_emod_self_left]
    _ = n % m := by rw [e]
theorem modulo_r (n m : Int) (hm : 0 < m) (hm' : m ≤ 256) (h : -100000 ≤ n) (h' : n ≤ 100000) (w : World) : Calls Try.prog 40 #[.int .i64 n, .int .i64 m] w fun e w' => e = .returned (.int .i64 (n % m)) ∧ w = w' := by
  have h0 : (m == 0) = false := by rw [beq_eq_false_iff_ne]; omega
  have h00 : ¬ m = 0 := by omega
  have h1 : -m < n.tmod m := Int.lt_tmod_of_pos n hm
  have h2 : n.tmod m < m := Int.tmod_lt_of_pos n hm
  have h3 := modulo_eq n m hm
  have h4 : 0 ≤ n % m := Int.emod_nonneg n h00
  have h5 : n % m < m := Int.emod_lt_of_pos n hm
  go_enter Try.func40, Try.ntmps40
  go_wp2
  go_ret
  exact ⟨rfl, rfl⟩

theorem nb_mod (n : Int) : decide (128 ≤ n % 256) = nb n := by
  unfold nb
  rw [Bool.eq_iff_iff, decide_eq_true_eq, beq_iff_eq]
  omega
theorem u8_mod (n : Int) (h : 0 ≤ n) : n.tmod 256 = u8 (BitVec.ofInt 8 n) := by rw [tm n 256 h, u8_byte]
theorem nb_u8 (n : Int) : decide (128 ≤ u8 (BitVec.ofInt 8 n)) = nb n := by rw [← u8_byte]; exact nb_mod n
set_option maxRecDepth 100000 in
set_option maxHeartbeats 1000000 in
theorem binary_r (x y : BitVec 8) (c : Bool) (w : World) : Calls Try.prog 32 #[.int .i64 (u8 x), .int .i64 (u8 y), .int .i64 (cnt c)] w fun e w' => e = .returned (RV (addV x y c)) ∧ Below w.heap.size w w' := by
  have x1 := u8_lo x
  have x2 := u8_hi x
  have y1 := u8_lo y
  have y2 := u8_hi y
  have c1 := cnt_lo c
  have c2 := cnt_hi c
  have s1 := sgn_lo (u8 x) x1
  have s2 := sgn_hi (u8 x) x2
  have s3 := sgn_lo (u8 y) y1
  have s4 := sgn_hi (u8 y) y2
  have a1 := u8_mod (u8 x + u8 y + cnt c) (by omega)
  have a2 := nb_u8 (u8 x + u8 y + cnt c)
  have a3 := u8_beq0
  go_enter Try.func32, Try.ntmps32
  go_wp2_with (first
    | (go_at_call 52; ((with_reducible refine (signedx_r _ _).mono ?_); rintro _ _ ⟨rfl, rfl⟩))
    | (go_at_call 51; ((with_reducible refine (beyond_r (sgn (u8 x) + sgn (u8 y) + cnt c) (by omega) (by omega) _).mono ?_); rintro _ _ ⟨rfl, rfl⟩)))
  refine bodyPost_ret (v := RV (addV x y c)) (by simp [results, Try.results32, go_sem, addV, sumB] <;> first | done | rfl | exact dec_eq Iff.rfl) rfl ⟨rfl, by go_grown⟩

set_option maxRecDepth 100000 in
set_option maxHeartbeats 2000000 in
theorem decimal_r (x y : BitVec 8) (c : Bool) (w : World) : Calls Try.prog 34 #[.int .i64 (u8 x), .int .i64 (u8 y), .int .i64 (cnt c)] w fun e w' => e = .returned (RV (addD x y c)) ∧ Below w.heap.size w w' := by
  have x1 := u8_lo x
  have x2 := u8_hi x
  have y1 := u8_lo y
  have y2 := u8_hi y
  have c1 := cnt_lo c
  have c2 := cnt_hi c
  have l1 := lo_lo x
  have l2 := lo_hi x
  have l3 := lo_lo y
  have l4 := lo_hi y
  have i1 := hi_lo x
  have i2 := hi_hi x
  have i3 := hi_lo y
  have i4 := hi_hi y
  have s1 := sgn_lo (hi x) i1
  have s2 := sgn_hi (hi x) (by omega)
  have s3 := sgn_lo (hi y) i3
  have s4 := sgn_hi (hi y) (by omega)
  have p1 := dL0_lo x y c
  have p2 := dL0_hi x y c
  have p3 := dL_lo x y c
  have p4 := dL_hi x y c
  have p5 := dH0_lo x y c
  have p6 := dH0_hi x y c
  have p7 := dH_lo x y c
  have p8 := dH_hi x y c
  have m1 : (u8 x).tmod 16 = lo x := tm _ _ x1
  have m2 : (u8 y).tmod 16 = lo y := tm _ _ y1
  have m3 : u8 x / 16 * 16 = hi x := rfl
  have m4 : u8 y / 16 * 16 = hi y := rfl
  have m5 : (dL0 x y c + 6).tmod 16 = (dL0 x y c + 6) % 16 := tm _ _ (by omega)
  have m6 : ((dH0 x y c / 128).tmod 2 == 1) = nb (dH0 x y c) := by rw [tm _ _ (by omega)]; rfl
  have m7 : (dH x y c).tmod 256 = u8 (BitVec.ofInt 8 (dH x y c)) := u8_mod _ p7
  have m8 : (u8 x + u8 y + cnt c).tmod 256 = u8 (BitVec.ofInt 8 (sumB x y c)) := u8_mod _ (by omega)
  have a3 := u8_beq0
  have e3 : hi x + hi y + dL x y c = dH0 x y c := rfl
  have key1 : (¬ 10 ≤ dL x y c ∧ lo x + lo y + cnt c = dL x y c ∧ True) ∨ (10 ≤ dL0 x y c ∧ lo x + lo y + cnt c = dL0 x y c ∧ 16 + (dL0 x y c + 6) % 16 = dL x y c) := by
    by_cases h : dL0 x y c < 10
    · have : dL x y c = dL0 x y c := by unfold dL; rw [if_pos h]
      exact .inl ⟨by omega, this.symm, trivial⟩
    · exact .inr ⟨by omega, rfl, by unfold dL; rw [if_neg h]⟩
  have key2 : (¬ 160 ≤ dH0 x y c ∧ dH x y c = dH0 x y c ∧ (dH0 x y c).tmod 256 = u8 (BitVec.ofInt 8 (dH x y c)) ∧ decide (256 ≤ dH0 x y c) = decide (256 ≤ dH x y c)) ∨ (160 ≤ dH0 x y c ∧ True ∧ dH0 x y c + 96 = dH x y c ∧ True) := by
    by_cases h : dH0 x y c < 160
    · have : dH x y c = dH0 x y c := by unfold dH; rw [if_pos h]
      exact .inl ⟨by omega, this, by rw [← m7, this], by rw [this]⟩
    · exact .inr ⟨by omega, trivial, by unfold dH; rw [if_neg h], trivial⟩
  rcases key1 with ⟨h10, e1, e2⟩ | ⟨h10, e1, e2⟩ <;> rcases key2 with ⟨h160, e5, e4, e6⟩ | ⟨h160, e5, e4, e6⟩
  all_goals
    have E5 := Lib.hid e5
    clear e5
    go_enter Try.func34, Try.ntmps34
    go_wp2_with (first
      | (go_at_call 52; ((with_reducible refine (signedh_r _ _).mono ?_); rintro _ _ ⟨rfl, rfl⟩))
      | (go_at_call 51; ((with_reducible refine (beyond_r (sgn (hi x) + sgn (hi y) + dL x y c) (by omega) (by omega) _).mono ?_); rintro _ _ ⟨rfl, rfl⟩)))
    refine bodyPost_ret (v := RV (addD x y c)) (by simp [results, Try.results34, go_sem, addD] <;> first | done | rfl | exact dec_eq Iff.rfl) rfl ⟨rfl, by go_grown⟩
end Go.Proofs.Ytdmgdldadpkhgaa
