/-
  FlagsBack: what its calls come to, in plain values; it returns true.
-/
import Derived.Test.YtdpoonmgailonaaDoorBackWalk
import Derived.Test.YtdpoonmgailonaaDoorRText
set_option linter.unusedSimpArgs false
set_option linter.unusedVariables false
namespace Go.Proofs.YtdpoonmgailonaaDoor
open Go.RowKit Go.PlainAid

theorem bt_data (s : ByteArray) (k : Nat) : bt s k = (((s.data[k]?).getD 0).toNat : Int) := by
  unfold bt
  by_cases h : k < s.size
  · rw [dif_pos h, Array.getElem?_eq_getElem (show k < s.data.size from h)]; rfl
  · rw [dif_neg h, Array.getElem?_eq_none (by have : s.data.size = s.size := rfl; omega)]; rfl
theorem bt_txt (x t : BitVec 8) : ∀ n, n ≤ 8 → ∀ k, k < n → bt (txtTo x t n) k = letD x t k
  | 0, _, k, h => by omega
  | n + 1, hn, k, hk => by
    have hsz := txtTo_size x t n (by omega)
    have h0 := letD_lo x t n (by omega)
    have h1 := letD_hi x t n (by omega)
    rw [txtTo_succ, enc_one _ (by omega) (by omega), bt_data, ByteArray.data_append]
    by_cases e : k = n
    · subst e
      rw [Array.getElem?_append_right (by have : (txtTo x t k).data.size = (txtTo x t k).size := rfl; omega)]
      have hd : k - (txtTo x t k).data.size = 0 := by have : (txtTo x t k).data.size = (txtTo x t k).size := rfl; omega
      rw [hd]
      show (((UInt8.ofNat (letD x t k).toNat).toNat : Nat) : Int) = letD x t k
      simp
      omega
    · rw [Array.getElem?_append_left (by have : (txtTo x t n).data.size = (txtTo x t n).size := rfl; omega), ← bt_data]
      exact bt_txt x t n (by omega) k (by omega)
theorem letD_v (x t : BitVec 8) (k : Nat) (h : k < 8) : (letD x t k == lt k) = (getI x (7 - k) && !getI t (7 - k)) := by
  have := lt_lo k h
  unfold letD letR
  cases getI x (7 - k) <;> cases getI t (7 - k) <;> simp <;> omega
theorem letD_t (x t : BitVec 8) (k : Nat) (h : k < 8) : (letD x t k == 63) = getI t (7 - k) := by
  have := lt_lo k h
  unfold letD letR
  cases getI x (7 - k) <;> cases getI t (7 - k) <;> simp <;> omega
theorem okAt_txt (x t : BitVec 8) (k : Nat) (h : k < 8) : okAt (txt x t) k = true := by
  unfold okAt txt
  rw [bt_txt x t 8 (by omega) k h]
  unfold letD letR
  cases getI x (7 - k) <;> cases getI t (7 - k) <;> simp
theorem goodTo_txt (x t : BitVec 8) : ∀ n, n ≤ 8 → goodTo (txt x t) n = true
  | 0, _ => rfl
  | n + 1, h => by
    show (goodTo (txt x t) n && okAt (txt x t) n) = true
    rw [goodTo_txt x t n (by omega), okAt_txt x t n (by omega)]; rfl
theorem isReg_txt (x t : BitVec 8) : isReg (txt x t) = true := is_reg (txtTo_size x t 8 (by omega)) (goodTo_txt x t 8 (by omega))
theorem acc_bit (f : Nat → Bool) (acc : Nat → BitVec 8) (h0 : acc 0 = 0#8) (hs : ∀ k : Nat, acc (k + 1) = setI (acc k) (7 - k) (f k)) :
    ∀ n, n ≤ 8 → ∀ j : Nat, j < 8 → getI (acc n) j = if 8 - n ≤ j then f (7 - j) else false
  | 0, _, j, hj => by rw [h0, get_zero, if_neg (by omega)]
  | n + 1, hn, j, hj => by
    have e : (7 - (n : Int)) = ((7 - n : Nat) : Int) := by omega
    rw [hs, e, getI_setI _ (7 - n) j _ (by omega) hj]
    by_cases h : j = 7 - n
    · rw [if_pos h, if_pos (by omega)]
      congr 1; omega
    · rw [if_neg h, acc_bit f acc h0 hs n (by omega) j hj]
      by_cases h2 : 8 - n ≤ j
      · rw [if_pos h2, if_pos (by omega)]
      · rw [if_neg h2, if_neg (by omega)]
theorem getI_ext {x y : BitVec 8} (h : ∀ k : Nat, k < 8 → getI x k = getI y k) : x = y := by
  apply BitVec.eq_of_getLsbD_eq
  intro k hk
  have := h k hk
  rw [getI_nat x k hk, getI_nat y k hk] at this
  exact this
theorem getI_and_not (x t : BitVec 8) (k : Nat) (h : k < 8) : getI (x &&& ~~~t) k = (getI x k && !getI t k) := by
  rw [getI_nat _ k h, getI_nat _ k h, getI_nat _ k h]
  unfold bitAt
  rw [BitVec.getLsbD_and, BitVec.getLsbD_not]
  simp [h]
theorem accV_txt (x t : BitVec 8) : accV (txt x t) 8 = x &&& ~~~t := by
  refine getI_ext fun j hj => ?_
  rw [acc_bit (fun k => bt (txt x t) k == lt k) (accV (txt x t)) rfl (fun _ => rfl) 8 (by omega) j hj, if_pos (by omega), getI_and_not x t j hj]
  show (bt (txtTo x t 8) (7 - j) == lt (7 - j)) = _
  rw [bt_txt x t 8 (by omega) (7 - j) (by omega), letD_v x t (7 - j) (by omega)]
  have e : (7 - ((7 - j : Nat) : Int)) = (j : Int) := by omega
  rw [e]
theorem accT_txt (x t : BitVec 8) : accT (txt x t) 8 = t := by
  refine getI_ext fun j hj => ?_
  rw [acc_bit (fun k => bt (txt x t) k == 63) (accT (txt x t)) rfl (fun _ => rfl) 8 (by omega) j hj, if_pos (by omega)]
  show (bt (txtTo x t 8) (7 - j) == 63) = _
  rw [bt_txt x t 8 (by omega) (7 - j) (by omega), letD_t x t (7 - j) (by omega)]
  have e : (7 - ((7 - j : Nat) : Int)) = (j : Int) := by omega
  rw [e]
theorem parse_txt (x t : BitVec 8) (w : World) : Calls Tryd.prog 18 #[.string (txt x t)] w fun e w' => e = .returned (.tuple #[TB (x &&& ~~~t) t, .int .i64 0]) ∧ Below w.heap.size w w' := by
  have h := isReg_txt x t
  refine (parse_c (txt x t) w).mono fun _ _ ⟨h1, h2⟩ => ⟨?_, h2⟩
  rw [h1, pV_yes h, pT_yes h, pE_yes h, accV_txt, accT_txt]
theorem clear_alike (x t : BitVec 8) : alike (x &&& ~~~t) x t := alike_of fun i hi h => by
  rw [BitVec.getLsbD_and, BitVec.getLsbD_not, h]; simp [hi]
theorem getI_oth (x t b : BitVec 8) (k : Nat) (hk : k < 8) (h : getI t k = false) : getI (oth x t b) k = getI x k := by
  rw [getI_nat _ k hk] at h
  rw [getI_nat _ k hk, getI_nat _ k hk]
  unfold bitAt at *
  rw [oth_bit, h]; simp
theorem letD_oth (x t b : BitVec 8) (k : Nat) (hk : k < 8) : letD (oth x t b) t k = letD x t k := by
  have e : (7 - (k : Int)) = ((7 - k : Nat) : Int) := by omega
  unfold letD letR
  rw [e]
  cases h : getI t ((7 - k : Nat) : Int)
  · rw [getI_oth x t b (7 - k) (by omega) h]
  · rfl
theorem txt_oth (x t b : BitVec 8) : txt (oth x t b) t = txt x t := by
  unfold txt txtTo runes
  congr 1
  refine List.map_congr_left fun k hk => ?_
  exact letD_oth x t b k (List.mem_range.1 hk)
theorem push_twice (x : BitVec 8) (c : Bool) : pushV (pushV x c) false = pushV x false := by
  have : ∀ x : BitVec 8, ∀ c : Bool, pushV (pushV x c) false = pushV x false := by decide +kernel
  exact this x c
theorem pushT_twice (t : BitVec 8) : pushT (pushT t) = pushT t := by
  have : ∀ t : BitVec 8, pushT (pushT t) = pushT t := by decide +kernel
  exact this t
theorem push_get (x : BitVec 8) : getI (pushV x false) 5 = true ∧ getI (pushV x false) 4 = false ∧ getI (pushT x) 5 = false ∧ getI (pushT x) 4 = false := by
  have : ∀ x : BitVec 8, getI (pushV x false) 5 = true ∧ getI (pushV x false) 4 = false ∧ getI (pushT x) 5 = false ∧ getI (pushT x) 4 = false := by decide +kernel
  exact this x
theorem push_k (x : BitVec 8) (c : Bool) (k : Nat) (hk : k < 8) (h4 : k ≠ 4) (h5 : k ≠ 5) : getI (pushV x c) k = getI x k ∧ getI (pushT x) k = getI x k := by
  unfold pushV pushT
  constructor
  · refine (getI_setI _ 4 k _ (by omega) hk).trans ?_
    rw [if_neg h4]
    refine (getI_setI _ 5 k _ (by omega) hk).trans ?_
    rw [if_neg h5]
  · refine (getI_setI _ 4 k _ (by omega) hk).trans ?_
    rw [if_neg h4]
    refine (getI_setI _ 5 k _ (by omega) hk).trans ?_
    rw [if_neg h5]
theorem zT_oth (x t b : BitVec 8) : zT (oth x t b) t = zT x t := by unfold zT; rw [oth_rest, oth_all]
theorem toldT_oth (x t b : BitVec 8) : toldT t (oth x t b) t = toldT t x t := by unfold toldT; rw [zT_oth]
theorem zero_oth (x t b : BitVec 8) (h : zT x t = false) : (x == 0#8) = (oth x t b == 0#8) := by
  unfold zT at h
  have h1 := oth_rest x t b
  have h2 := oth_all x t b
  rw [Bool.and_eq_false_iff] at h
  rcases h with h | h
  · rw [beq_eq_false_iff_ne] at h
    have a : x ≠ 0#8 := fun e => h (by rw [e]; simp)
    have c : oth x t b ≠ 0#8 := fun e => h (by rw [← h1, e]; simp)
    rw [beq_eq_false_iff_ne.2 a, beq_eq_false_iff_ne.2 c]
  · have h0 : x ||| t = 0#8 := by simpa using h
    have hx : x = 0#8 := by
      apply BitVec.eq_of_getLsbD_eq
      intro i hi
      have := congrArg (fun z : BitVec 8 => z.getLsbD i) h0
      simp only [BitVec.getLsbD_or, BitVec.getLsbD_zero, Bool.or_eq_false_iff] at this
      rw [this.1]; simp
    have ho : oth x t b = 0#8 := by
      rw [h0] at h2
      apply BitVec.eq_of_getLsbD_eq
      intro i hi
      have := congrArg (fun z : BitVec 8 => z.getLsbD i) h2
      simp only [BitVec.getLsbD_or, BitVec.getLsbD_zero, Bool.or_eq_false_iff] at this
      rw [this.1]; simp
    rw [ho, hx]
theorem toldT_1s (t x : BitVec 8) : getI (toldT t x t) 1 = zT x t := by
  unfold toldT
  exact (getI_setI _ 1 1 _ (by omega) (by omega)).trans (by simp)
theorem toldT_7s (t x : BitVec 8) : getI (toldT t x t) 7 = getI t 7 := by
  unfold toldT
  refine (getI_setI _ 1 7 _ (by omega) (by omega)).trans ?_
  rw [if_neg (by omega)]
  refine (getI_setI _ 7 7 _ (by omega) (by omega)).trans ?_
  rw [if_pos rfl]
theorem toldV_7g (x y : BitVec 8) : getI (toldV x y) 7 = getI y 7 := by rw [told_7, get7]
theorem told_alike (x t b : BitVec 8) : alike (toldV x x) (toldV (oth x t b) (oth x t b)) (toldT t x t) := by
  refine alike_of fun i hi h => ?_
  have h' : getI (toldT t x t) i = false := by rw [getI_nat _ i hi]; exact h
  have key : getI (toldV x x) i = getI (toldV (oth x t b) (oth x t b)) i := by
    by_cases e1 : i = 1
    · subst e1
      have h1 : zT x t = false := (toldT_1s t x).symm.trans h'
      exact (told_1 x x).trans ((zero_oth x t b h1).trans (told_1 _ _).symm)
    · by_cases e7 : i = 7
      · subst e7
        have h7 : getI t 7 = false := (toldT_7s t x).symm.trans h'
        exact (toldV_7g x x).trans ((getI_oth x t b 7 (by omega) h7).symm.trans (toldV_7g _ _).symm)
      · rw [toldT_k t x t i hi e1 e7] at h'
        rw [told_k x x i hi e1 e7, told_k _ _ i hi e1 e7, getI_oth x t b i hi h']
  rw [getI_nat _ i hi, getI_nat _ i hi] at key
  exact key

theorem back_walk (x t b : BitVec 8) (w : World) : Calls Tryd.prog 5 #[TB x t, B8 b] w (LawEnd w) := by
  refine back_walk' x t b (x &&& ~~~t) (pushT t) (pushV x false) (pushT t) (toldV x x) (toldV (oth x t b) (oth x t b)) (toldT t x t) (pushV x) (txt x t) (txtTo_size x t 8 (by omega))
    (fun w => text_c x t w) (fun w => parse_txt x t w) (fun w => same_yes _ _ _ (clear_alike x t) w) (fun w => ?_) (fun c w => pushed_c x t c w) (fun c w => ?_) (fun w => pulled_c x t w)
    (fun w => ?_) (fun w => ?_) (fun k hk h4 h5 w => ?_) (fun w => told_c x t x t w) (fun w => ?_) (fun w => same_yes _ _ _ (told_alike x t b) w) w
  · have := text_c (oth x t b) t w
    rw [txt_oth] at this
    exact this
  · have := pulled_c (pushV x c) (pushT t) w
    rw [push_twice, pushT_twice] at this
    exact this
  · have := get_i (pushV x false) (pushT t) 5 w
    rw [(push_get x).1, (push_get t).2.2.1] at this
    exact this
  · have := get_i (pushV x false) (pushT t) 4 w
    rw [(push_get x).2.1, (push_get t).2.2.2] at this
    exact this
  · have := get_i (pushV x false) (pushT t) k w
    rw [(push_k x false k hk h4 h5).1, (push_k t false k hk h4 h5).2] at this
    exact this
  · have := told_c (oth x t b) t (oth x t b) t w
    rw [toldT_oth] at this
    exact this
end Go.Proofs.YtdpoonmgailonaaDoor
