/-
  What the document's answer of layer 2 comes to: the decimal difference, and what is secret.
-/
import Derived.Test.YtdmgdldadpkhgaaRs
import Derived.Test.YtdmgdldadpkhgaaRef3
set_option linter.unusedSimpArgs false
set_option linter.unusedVariables false
namespace Go.Proofs.Ytdmgdldadpkhgaa
open Go.RowKit

theorem u8_com (y : BitVec 8) : 255 - u8 y = u8 (~~~y) := by
  unfold u8
  rw [BitVec.toNat_not]
  have := y.isLt
  omega
set_option maxRecDepth 100000 in
set_option maxHeartbeats 2000000 in
theorem less_r (x y : BitVec 8) (c : Bool) (w : World) : Calls Try.prog 38 #[.int .i64 (u8 x), .int .i64 (u8 y), .int .i64 (cnt c)] w fun e w' => e = .returned (RV (subD x y c)) ∧ Below w.heap.size w w' := by
  have x1 := u8_lo x
  have x2 := u8_hi x
  have y1 := u8_lo y
  have y2 := u8_hi y
  have c1 := cnt_lo c
  have c2 := cnt_hi c
  have l1 := lo_lo x
  have l2 := lo_hi x
  have l3 := lo_lo y
  have l4 := lo_hi y
  have i1 := hi_lo x
  have i2 := hi_hi x
  have i3 := hi_lo y
  have i4 := hi_hi y
  have p1 := eL0_lo x y c
  have p2 := eL0_hi x y c
  have p3 := eL_lo x y c
  have p4 := eL_hi x y c
  have p5 := eH0_lo x y c
  have p6 := eH0_hi x y c
  have m1 : (u8 x).tmod 16 = lo x := tm _ _ x1
  have m2 : (u8 y).tmod 16 = lo y := tm _ _ y1
  have m3 : u8 x / 16 * 16 = hi x := rfl
  have m4 : u8 y / 16 * 16 = hi y := rfl
  have hc := u8_com y
  have e3 : hi x - hi y + eL x y c = eH0 x y c := rfl
  have e0 : lo x - lo y + cnt c - 1 = eL0 x y c := by unfold eL0; omega
  have key1 : (¬ eL x y c < 0 ∧ lo x - lo y + cnt c - 1 = eL x y c ∧ True) ∨ (eL0 x y c < 0 ∧ lo x - lo y + cnt c - 1 = eL0 x y c ∧ (eL0 x y c - 6) % 16 - 16 = eL x y c) := by
    by_cases h : eL0 x y c < 0
    · exact .inr ⟨by omega, e0, by unfold eL; rw [if_pos h]⟩
    · have : eL x y c = eL0 x y c := by unfold eL; rw [if_neg h]
      exact .inl ⟨by omega, e0.trans this.symm, trivial⟩
  have key2 : (¬ eH x y c < 0 ∧ hi x - hi y + eL x y c = eH x y c ∧ True) ∨ (eH0 x y c < 0 ∧ hi x - hi y + eL x y c = eH0 x y c ∧ eH0 x y c - 96 = eH x y c) := by
    by_cases h : eH0 x y c < 0
    · exact .inr ⟨by omega, rfl, by unfold eH; rw [if_pos h]⟩
    · have : eH x y c = eH0 x y c := by unfold eH; rw [if_neg h]
      exact .inl ⟨by omega, this.symm, trivial⟩
  have q1 : -400 ≤ eH x y c := by rcases key2 with h | h <;> omega
  have q2 : eH x y c < 256 := by rcases key2 with h | h <;> omega
  have m7 : eH x y c % 256 = u8 (BitVec.ofInt 8 (eH x y c)) := u8_byte _
  clear e0 e3
  rcases key1 with ⟨h10, e1, e2⟩ | ⟨h10, e1, e2⟩ <;> rcases key2 with ⟨h160, e5, e4⟩ | ⟨h160, e5, e4⟩
  all_goals
    go_enter Try.func38, Try.ntmps38
    go_wp2_with (go_at_call 40; ((with_reducible refine (modulo_r (eL0 x y c - 6) 16 (by omega) (by omega) (by omega) (by omega) _).mono ?_); rintro _ _ ⟨rfl, rfl⟩))
    ((with_reducible refine (binary_r _ _ _ _).mono ?_); rintro _ w1 ⟨rfl, hb⟩)
    have T : w1.cell? ⟨w.heap.size, 0, none⟩ = some (.int .i64 0) ∧ w1.frozen? ⟨w.heap.size, 0, none⟩ = false ∧ w1.cell? ⟨w.heap.size, 1, none⟩ = some (.bool false) ∧ w1.frozen? ⟨w.heap.size, 1, none⟩ = false ∧ w1.cell? ⟨w.heap.size, 2, none⟩ = some (.bool false) ∧ w1.frozen? ⟨w.heap.size, 2, none⟩ = false ∧ w1.cell? ⟨w.heap.size, 3, none⟩ = some (.bool false) ∧ w1.frozen? ⟨w.heap.size, 3, none⟩ = false ∧ w1.cell? ⟨w.heap.size, 4, none⟩ = some (.bool false) ∧ w1.frozen? ⟨w.heap.size, 4, none⟩ = false := by
        refine ⟨?_, ?_, ?_, ?_, ?_, ?_, ?_, ?_, ?_, ?_⟩ <;> first | (refine kc hb ?_ <;> (go_simp; first | done | rfl)) | (refine kfz hb ?_ ?_ <;> first | (go_size; done) | (go_simp; done))
    have hz := hb.size
    (try simp only [World.size_alloc, World.size_setCell, World.size_drew] at hz)
    have hlr' : w.heap.size < w1.heap.size := by omega
    have hB' : Below w.heap.size w w1 := by
        refine kb ?_ hb
        go_grown
    clear hb hz
    obtain ⟨hr_0, fr_0, hr_1, fr_1, hr_2, fr_2, hr_3, fr_3, hr_4, fr_4⟩ := T
    have hlr := hlr'; clear hlr'
    have hnr0 : ¬ (w.heap.size = w1.heap.size) := by omega
    have hnr1 : ¬ (w.heap.size = w1.heap.size + 1) := by omega
    have hkr1 : w.heap.size < w1.heap.size + 1 := by omega
    have hnr2 : ¬ (w.heap.size = w1.heap.size + 1 + 1) := by omega
    have hkr2 : w.heap.size < w1.heap.size + 1 + 1 := by omega
    have hB := hB'; clear hB'
    have hsz := hB.size
    have hn0 : ¬ w.heap.size = w1.heap.size := hnr0
    go_upto_region 9 with (go_at_call 40; ((with_reducible refine (modulo_r (eH x y c) 256 (by omega) (by omega) (by omega) (by omega) _).mono ?_); rintro _ _ ⟨rfl, rfl⟩))
    refine wp_pin (fun w' => w'.cell? ⟨w.heap.size, 0, none⟩ = some (.int .i64 0) ∧ w'.frozen? ⟨w.heap.size, 0, none⟩ = false ∧ w'.cell? ⟨w.heap.size, 1, none⟩ = some (.bool false) ∧ w'.frozen? ⟨w.heap.size, 1, none⟩ = false ∧ w'.cell? ⟨w.heap.size, 2, none⟩ = some (.bool false) ∧ w'.frozen? ⟨w.heap.size, 2, none⟩ = false ∧ w'.cell? ⟨w.heap.size, 3, none⟩ = some (.bool false) ∧ w'.frozen? ⟨w.heap.size, 3, none⟩ = false ∧ w'.cell? ⟨w.heap.size, 4, none⟩ = some (.bool false) ∧ w'.frozen? ⟨w.heap.size, 4, none⟩ = false ∧ w'.cell? ⟨w1.heap.size, 0, none⟩ = some (.int .i64 (u8 (BitVec.ofInt 8 (eH x y c)))) ∧ w'.cell? ⟨w1.heap.size, 1, none⟩ = some (.bool (addV x (~~~y) c).n) ∧ w'.cell? ⟨w1.heap.size, 2, none⟩ = some (.bool (addV x (~~~y) c).v) ∧ w'.cell? ⟨w1.heap.size, 3, none⟩ = some (.bool (addV x (~~~y) c).z) ∧ w'.cell? ⟨w1.heap.size, 4, none⟩ = some (.bool (addV x (~~~y) c).c) ∧ Below w.heap.size w w') ?_ ?_
    · (try dsimp only)
      refine ⟨?_, ?_, ?_, ?_, ?_, ?_, ?_, ?_, ?_, ?_, ?_, ?_, ?_, ?_, ?_, ?_⟩ <;> first | (go_simp; done) | (simp [*]; done) | go_grown
    intro w2 T
    (try dsimp only at T)
    clear hr_0 fr_0 hr_1 fr_1 hr_2 fr_2 hr_3 fr_3 hr_4 fr_4 hlr hnr0 hnr1 hkr1 hnr2 hkr2 hB hsz
    obtain ⟨hr_0, fr_0, hr_1, fr_1, hr_2, fr_2, hr_3, fr_3, hr_4, fr_4, hs_0, hs_1, hs_2, hs_3, hs_4, hB⟩ := T
    have hsz := hB.size
    have hlr := klt hr_0
    have hls := klt hs_0
    have hnr0 : ¬ (w.heap.size = w2.heap.size) := by omega
    have hnr1 : ¬ (w.heap.size = w2.heap.size + 1) := by omega
    have hkr1 : w.heap.size < w2.heap.size + 1 := by omega
    have hnr2 : ¬ (w.heap.size = w2.heap.size + 1 + 1) := by omega
    have hkr2 : w.heap.size < w2.heap.size + 1 + 1 := by omega
    have hns0 : ¬ (w1.heap.size = w2.heap.size) := by omega
    have hns1 : ¬ (w1.heap.size = w2.heap.size + 1) := by omega
    have hks1 : w1.heap.size < w2.heap.size + 1 := by omega
    have hns2 : ¬ (w1.heap.size = w2.heap.size + 1 + 1) := by omega
    have hks2 : w1.heap.size < w2.heap.size + 1 + 1 := by omega
    clear m1 m2 m3 m4 m7 hc e1 e2 e4 e5 x1 x2 y1 y2 c1 c2 l1 l2 l3 l4 i1 i2 i3 i4 p1 p2 p3 p4 p5 p6 q1 q2
    go_wp2
    refine bodyPost_ret (v := RV (subD x y c)) (by simp [results, Try.results38, go_sem, hr_0, hr_1, hr_2, hr_3, hr_4, subD] <;> first | done | rfl | exact dec_eq Iff.rfl) rfl ⟨rfl, by go_grown⟩

/-- What is secret, as a number: the two bytes' bits, and the bit's. -/
theorem sec_or (t s : BitVec 8) (ct : Bool) : bits .or .i64 (u8 (t ||| s)) (cnt ct) = u8 (secT t s ct) := by
  have : ∀ (z : BitVec 8) (c : Bool), bits .or .i64 (u8 z) (cnt c) = u8 (if c then z ||| 1#8 else z) := by decide +kernel
  rw [this]
  cases ct <;> rfl
theorem sec_one (z : BitVec 8) : bits .or .i64 (u8 z) 1 = u8 (z ||| 1#8) := by
  have : ∀ z : BitVec 8, bits .or .i64 (u8 z) 1 = u8 (z ||| 1#8) := by decide +kernel
  exact this z
set_option maxRecDepth 100000 in
set_option maxHeartbeats 1000000 in
theorem secret_r (x t y s : BitVec 8) (c ct : Bool) (w : World) : Calls Try.prog 35 #[TB x t, TB y s, TBit c ct] w fun e w' => e = .returned (.int .i64 (u8 (secT t s ct))) ∧ Below w.heap.size w w' := by
  have h1 := u8_or
  have h2 := sec_or t s ct
  have h3 := i64_u8 (t ||| s)
  go_enter Try.func35, Try.ntmps35
  go_wp2_with fail
  refine wp_region_plan (fun w' => w'.cell? ⟨w.heap.size, 0, none⟩ = some (B8 x) ∧ w'.cell? ⟨w.heap.size, 1, none⟩ = some (B8 t) ∧ w'.cell? ⟨w.heap.size + 1, 0, none⟩ = some (B8 y) ∧ w'.cell? ⟨w.heap.size + 1, 1, none⟩ = some (B8 s) ∧ w'.cell? ⟨w.heap.size + 1 + 1, 0, none⟩ = some (.bool c) ∧ w'.cell? ⟨w.heap.size + 1 + 1, 1, none⟩ = some (.bool ct) ∧ Below w.heap.size w w') (by kernel_rfl) (by kernel_rfl) (by kernel_rfl) ?_ ?_
  · (try dsimp only)
    refine ⟨?_, ?_, ?_, ?_, ?_, ?_, ?_⟩ <;> first | (go_simp; done) | (simp [*]; done) | go_grown
  repeat (first
    | (refine Plan.val (v := ?_) ?_ ?_ ?_; rotate_left; (· rfl); (· (intro W hSw; (try dsimp only at hSw); go_simp; all_goals (first | (with_reducible rfl) | (constructor <;> (with_reducible rfl))))); (try simp only [Act.put, List.setIfInBounds_toArray, List.set_cons_zero, List.set_cons_succ]))
    | (refine Plan.no ?_ ?_; (· rfl); (try simp only [Act.put, List.setIfInBounds_toArray, List.set_cons_zero, List.set_cons_succ]))
    | (refine Plan.call (v := ?_) (f := ?_) (args := ?_) ?_ ?_ ?_ ?_; rotate_left 3; (· rfl); (· (intro W hSw; (try dsimp only at hSw); go_simp; all_goals (first | (with_reducible rfl) | (constructor <;> (with_reducible rfl))))); (· (intro W hSw; (try dsimp only at hSw); first | (go_at_call 33; ((with_reducible refine (one_b _ _).mono ?_); rintro _ wz ⟨rfl, hb⟩; (refine ⟨?_, ?_⟩; (· with_reducible rfl); exact ⟨kc hb hSw.1, kc hb hSw.2.1, kc hb hSw.2.2.1, kc hb hSw.2.2.2.1, kc hb hSw.2.2.2.2.1, kc hb hSw.2.2.2.2.2.1, kb hSw.2.2.2.2.2.2 hb⟩))))); (try simp only [Act.put, List.setIfInBounds_toArray, List.set_cons_zero, List.set_cons_succ])))
  refine Plan.done ?_
  intro w1 T
  (try dsimp only at T)
  obtain ⟨ha_0, ha_1, hb_0, hb_1, hc_0, hc_1, hB⟩ := T
  have hsz := hB.size
  have hla := klt ha_0
  have hlb := klt hb_0
  have hlc := klt hc_0
  have hna0 : ¬ (w.heap.size = w1.heap.size) := by omega
  have hna1 : ¬ (w.heap.size = w1.heap.size + 1) := by omega
  have hka1 : w.heap.size < w1.heap.size + 1 := by omega
  have hna2 : ¬ (w.heap.size = w1.heap.size + 1 + 1) := by omega
  have hka2 : w.heap.size < w1.heap.size + 1 + 1 := by omega
  have hnb0 : ¬ (w.heap.size + 1 = w1.heap.size) := by omega
  have hkb1 : w.heap.size < w1.heap.size := by omega
  have hnc0 : ¬ (w.heap.size + 1 + 1 = w1.heap.size) := by omega
  have hkc1 : w.heap.size + 1 < w1.heap.size := by omega
  go_wp2
  go_ret
  exact ⟨rfl, hB⟩
end Go.Proofs.Ytdmgdldadpkhgaa
