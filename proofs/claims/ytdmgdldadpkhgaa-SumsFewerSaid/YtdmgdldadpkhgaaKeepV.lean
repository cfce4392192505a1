/-
  Sums of bytes that are the same but for secrets, and of which fewer bits are secret: the plain facts.
-/
import Derived.Test.YtdmgdldadpkhgaaComp
set_option linter.unusedSimpArgs false
set_option linter.unusedVariables false
namespace Go.Proofs.Ytdmgdldadpkhgaa

abbrev msk (k : Nat) : BitVec 8 := BitVec.ofNat 8 (2 ^ k - 1)
theorem spr_mask (z : BitVec 8) : ∃ k : Fin 9, ~~~spr z = msk k.val ∧ z &&& msk k.val = 0#8 ∧ (k.val ≠ 0 → z.getLsbD 0 = false) := by
  have : ∀ z : BitVec 8, ∃ k : Fin 9, ~~~spr z = msk k.val ∧ z &&& msk k.val = 0#8 ∧ (k.val ≠ 0 → z.getLsbD 0 = false) := by decide +kernel
  exact this z
theorem and_msk (x : BitVec 8) (k : Fin 9) : (x &&& msk k.val).toNat = x.toNat % 2 ^ k.val := by
  have : ∀ k : Fin 9, ∀ x : BitVec 8, (x &&& msk k.val).toNat = x.toNat % 2 ^ k.val := by decide +kernel
  exact this k x
theorem ofInt_nat (n : Int) (h : 0 ≤ n) : (BitVec.ofInt 8 n).toNat = n.toNat % 256 := by
  rw [BitVec.toNat_ofInt]; omega
theorem sum_msk (x y x' y' : BitVec 8) (c c' : Bool) (k : Fin 9) (hx : x &&& msk k.val = x' &&& msk k.val) (hy : y &&& msk k.val = y' &&& msk k.val) (hc : k.val ≠ 0 → c = c') :
    (addV x y c).a &&& msk k.val = (addV x' y' c').a &&& msk k.val := by
  apply BitVec.eq_of_toNat_eq
  have hx := congrArg BitVec.toNat hx
  have hy := congrArg BitVec.toNat hy
  rw [and_msk, and_msk] at *
  show (BitVec.ofInt 8 (sumB x y c)).toNat % _ = (BitVec.ofInt 8 (sumB x' y' c')).toNat % _
  have h1 := sumB_lo x y c
  have h2 := sumB_lo x' y' c'
  rw [ofInt_nat _ h1, ofInt_nat _ h2]
  have e1 : (sumB x y c).toNat = x.toNat + y.toNat + c.toNat := by unfold sumB u8 cnt; cases c <;> simp <;> omega
  have e2 : (sumB x' y' c').toNat = x'.toNat + y'.toNat + c'.toNat := by unfold sumB u8 cnt; cases c' <;> simp <;> omega
  rw [e1, e2]
  obtain ⟨k, hk⟩ := k
  simp only at hx hy hc ⊢
  match k, hk with
  | 0, _ => simp [Nat.mod_one]
  | 1, _ | 2, _ | 3, _ | 4, _ | 5, _ | 6, _ | 7, _ | 8, _ =>
    rw [hc (by decide)]
    simp only [Nat.reducePow] at *
    omega
  | n + 9, h => exact absurd h (by omega)

theorem not_oth (y s q : BitVec 8) : ~~~(oth y s q) = oth (~~~y) s q := by
  apply BitVec.eq_of_getLsbD_eq
  intro i hi
  simp only [BitVec.getLsbD_not, oth_bit, hi, decide_true, Bool.true_and]
  cases y.getLsbD i <;> cases q.getLsbD i <;> cases s.getLsbD i <;> rfl
theorem oth_msk (x t p z : BitVec 8) (m : BitVec 8) (hz : z &&& m = 0#8) (ht : ∀ i < 8, t.getLsbD i = true → z.getLsbD i = true) : x &&& m = oth x t p &&& m := by
  apply BitVec.eq_of_getLsbD_eq
  intro i hi
  have := congrArg (fun v : BitVec 8 => v.getLsbD i) hz
  simp only [BitVec.getLsbD_and, BitVec.getLsbD_zero] at this
  have h2 := ht i hi
  simp only [BitVec.getLsbD_and, oth_bit]
  revert this h2
  cases m.getLsbD i <;> cases z.getLsbD i <;> cases t.getLsbD i <;> cases p.getLsbD i <;> cases x.getLsbD i <;> decide
/-- A bit that is another one, if it is secret. -/
def odd (p : BitVec 8) : Bool := u8 p % 2 == 1
def obit (v t : Bool) (p : BitVec 8) : Bool := v != (t && odd p)
theorem obit_open (v t : Bool) (p : BitVec 8) (h : t = false) : obit v t p = v := by subst h; cases v <;> rfl

theorem sec_t (t s : BitVec 8) (ct : Bool) (i : Nat) (hi : i < 8) (h : t.getLsbD i = true) : (secT t s ct).getLsbD i = true := by
  unfold secT; split <;> simp [h]
theorem sec_s (t s : BitVec 8) (ct : Bool) (i : Nat) (hi : i < 8) (h : s.getLsbD i = true) : (secT t s ct).getLsbD i = true := by
  unfold secT; split <;> simp [h]
theorem sec_c (t s : BitVec 8) (ct : Bool) (h : (secT t s ct).getLsbD 0 = false) : ct = false := by
  cases ct
  · rfl
  · unfold secT at h; simp at h
theorem sec_zero {t s : BitVec 8} {ct : Bool} (h : secT t s ct = 0#8) : t = 0#8 ∧ s = 0#8 ∧ ct = false := by
  refine ⟨?_, ?_, sec_c t s ct (by rw [h]; rfl)⟩
  · apply BitVec.eq_of_getLsbD_eq
    intro i hi
    cases e : t.getLsbD i
    · simp
    · have := sec_t t s ct i hi e; rw [h] at this; simp at this
  · apply BitVec.eq_of_getLsbD_eq
    intro i hi
    cases e : s.getLsbD i
    · simp
    · have := sec_s t s ct i hi e; rw [h] at this; simp at this
/-- The sum's byte is the same but for what is from the lowest secret bit on. -/
theorem sum_alike (x t y s p q : BitVec 8) (c ct : Bool) (r : BitVec 8) : alike (addV x y c).a (addV (oth x t p) (oth y s q) (obit c ct r)).a (spr (secT t s ct)) := by
  unfold alike
  obtain ⟨k, h1, h2, h3⟩ := spr_mask (secT t s ct)
  rw [h1]
  exact sum_msk _ _ _ _ _ _ k (oth_msk x t p _ _ h2 (sec_t t s ct)) (oth_msk y s q _ _ h2 (sec_s t s ct)) (fun hk => (obit_open c ct r (sec_c t s ct (h3 hk))).symm)

theorem alike_all {x y t : BitVec 8} (h : alike x y t) : x ||| t = y ||| t := by
  apply BitVec.eq_of_getLsbD_eq
  intro i hi
  have := congrArg (fun v : BitVec 8 => v.getLsbD i) h
  simp only [BitVec.getLsbD_and, BitVec.getLsbD_not, BitVec.getLsbD_or, hi, decide_true, Bool.true_and] at this ⊢
  revert this
  cases x.getLsbD i <;> cases y.getLsbD i <;> cases t.getLsbD i <;> decide
theorem alike_zT {x y t : BitVec 8} (h : alike x y t) : zT y t = zT x t := by
  unfold zT; rw [← alike_all h, ← show x &&& ~~~t = y &&& ~~~t from h]
theorem zT_same {x y t : BitVec 8} (h : alike x y t) (hz : zT x t = false) : (x == 0#8) = (y == 0#8) := by
  unfold zT at hz
  rw [Bool.eq_iff_iff, beq_iff_eq, beq_iff_eq]
  by_cases h1 : x &&& ~~~t = 0#8
  · have h2 : x ||| t = 0#8 := by simpa [h1] using hz
    have h3 := alike_all h
    have e : ∀ v : BitVec 8, v ||| t = 0#8 → v = 0#8 := by
      intro v hv
      apply BitVec.eq_of_getLsbD_eq
      intro i hi
      have := congrArg (fun z : BitVec 8 => z.getLsbD i) hv
      simp only [BitVec.getLsbD_or, BitVec.getLsbD_zero] at this ⊢
      revert this; cases v.getLsbD i <;> simp
    rw [e x h2, e y (h3 ▸ h2)]
  · have h1' : ¬ y &&& ~~~t = 0#8 := by rw [← show x &&& ~~~t = y &&& ~~~t from h]; exact h1
    constructor
    · intro h2; exact absurd (by rw [h2, BitVec.zero_and]) h1
    · intro h2; exact absurd (by rw [h2, BitVec.zero_and]) h1'
theorem spr_top (z : BitVec 8) (h : z ≠ 0#8) : bitAt (spr z) 7 = true := by
  have : ∀ z : BitVec 8, z = 0#8 ∨ bitAt (spr z) 7 = true := by decide +kernel
  exact (this z).resolve_left h
theorem spr_zero : spr 0#8 = 0#8 := by decide

/-- Two sums are the same but for secrets, and have the same secrets. -/
structure Keeps (s s' : SV) (t : ST) : Prop where
  a : alike s.a s'.a t.t
  n : (t.n || s.n == s'.n) = true
  v : (t.v || s.v == s'.v) = true
  z : (t.z || s.z == s'.z) = true
  c : (t.c || s.c == s'.c) = true
theorem Keeps.self (s : SV) (t : ST) : Keeps s s t := by
  constructor
  · rfl
  all_goals simp
theorem keep_hid {s s' : SV} {z : BitVec 8} {d d' dt : Bool} (hd : dt = false → d' = d) (h0 : z = 0#8 → dt = false → s' = s)
    (h1 : d = false → dt = false → alike s.a s'.a (spr z) ∧ s.z = (s.a == 0#8) ∧ s'.z = (s'.a == 0#8)) :
    hidT z s'.a d' dt = hidT z s.a d dt ∧ Keeps s s' (hidT z s.a d dt) := by
  cases dt with
  | true =>
    have e : ∀ a e, hidT z a e true = TA := by
      intro a e; unfold hidT; rw [if_neg (by simp), if_pos (by simp)]
    rw [e, e]
    refine ⟨rfl, ⟨?_, rfl, rfl, rfl, rfl⟩⟩
    show s.a &&& ~~~255#8 = s'.a &&& ~~~255#8
    simp
  | false =>
    have hd := hd rfl
    subst hd
    by_cases hz : z = 0#8
    · have := h0 hz rfl
      subst this
      exact ⟨rfl, Keeps.self _ _⟩
    · cases d' with
      | true =>
        have e : ∀ a, hidT z a true false = TA := by
          intro a; unfold hidT; rw [if_neg (by simpa using hz), if_pos (by simp)]
        rw [e, e]
        refine ⟨rfl, ⟨?_, rfl, rfl, rfl, rfl⟩⟩
        show s.a &&& ~~~255#8 = s'.a &&& ~~~255#8
        simp
      | false =>
        obtain ⟨ha, z1, z2⟩ := h1 rfl rfl
        have e : ∀ a, hidT z a false false = ⟨spr z, bitAt (spr z) 7, true, zT a (spr z), true⟩ := by
          intro a; unfold hidT; rw [if_neg (by simpa using hz), if_neg (by simp)]
        rw [e, e, alike_zT ha]
        refine ⟨rfl, ⟨ha, ?_, rfl, ?_, rfl⟩⟩
        · show (bitAt (spr z) 7 || _) = true
          rw [spr_top z hz]; rfl
        · show (zT s.a (spr z) || s.z == s'.z) = true
          cases hq : zT s.a (spr z)
          · rw [z1, z2, zT_same ha hq]; simp
          · rfl

theorem oth_zero (x p : BitVec 8) : oth x 0#8 p = x := by unfold oth; simp
theorem keep_add (x t y s p q : BitVec 8) (c ct d dt : Bool) (r v : BitVec 8) :
    hidT (secT t s ct) (addR (oth x t p) (oth y s q) (obit c ct r) (obit d dt v)).a (obit d dt v) dt = hidT (secT t s ct) (addR x y c d).a d dt ∧
      Keeps (addR x y c d) (addR (oth x t p) (oth y s q) (obit c ct r) (obit d dt v)) (hidT (secT t s ct) (addR x y c d).a d dt) := by
  refine keep_hid (fun h => obit_open d dt v h) (fun hz hdt => ?_) (fun hd hdt => ?_)
  · obtain ⟨rfl, rfl, rfl⟩ := sec_zero hz
    rw [oth_zero, oth_zero, obit_open _ _ _ rfl, obit_open _ _ _ hdt]
  · rw [obit_open _ _ _ hdt]
    subst hd
    exact ⟨sum_alike x t y s p q c ct r, rfl, rfl⟩
theorem keep_sub (x t y s p q : BitVec 8) (c ct d dt : Bool) (r v : BitVec 8) :
    hidT (secT t s ct) (subR (oth x t p) (oth y s q) (obit c ct r) (obit d dt v)).a (obit d dt v) dt = hidT (secT t s ct) (subR x y c d).a d dt ∧
      Keeps (subR x y c d) (subR (oth x t p) (oth y s q) (obit c ct r) (obit d dt v)) (hidT (secT t s ct) (subR x y c d).a d dt) := by
  refine keep_hid (fun h => obit_open d dt v h) (fun hz hdt => ?_) (fun hd hdt => ?_)
  · obtain ⟨rfl, rfl, rfl⟩ := sec_zero hz
    rw [oth_zero, oth_zero, obit_open _ _ _ rfl, obit_open _ _ _ hdt]
  · rw [obit_open _ _ _ hdt]
    subst hd
    refine ⟨?_, rfl, rfl⟩
    have := sum_alike x t (~~~y) s p q c ct r
    rw [← not_oth] at this
    exact this
theorem keep_comp (x t y s p q : BitVec 8) :
    cmpT t s (cmpV (oth x t p) (oth y s q)).a = cmpT t s (cmpV x y).a ∧ Keeps (cmpV x y) (cmpV (oth x t p) (oth y s q)) (cmpT t s (cmpV x y).a) := by
  have h := keep_sub x t y s p q true false false false 0#8 0#8
  have e1 : obit true false 0#8 = true := rfl
  have e2 : obit false false 0#8 = false := rfl
  rw [e1, e2] at h
  obtain ⟨h1, h2⟩ := h
  have h1' : hidT (t ||| s) (cmpV (oth x t p) (oth y s q)).a false false = hidT (t ||| s) (cmpV x y).a false false := h1
  refine ⟨?_, ⟨h2.a, h2.n, rfl, h2.z, h2.c⟩⟩
  unfold cmpT
  rw [h1']
theorem keep_step (x t p : BitVec 8) : alike (stepV x 1) (stepV (oth x t p) 1) (spr t) := by
  have h := sum_alike x t 1#8 0#8 p 0#8 false false 0#8
  have e : ∀ v : BitVec 8, (addV v 1#8 false).a = stepV v 1 := fun v => rfl
  have e1 : oth 1#8 0#8 0#8 = 1#8 := by decide
  have e2 : secT t 0#8 false = t := by unfold secT; simp
  rw [e1, show obit false false 0#8 = false from rfl, e2] at h
  exact h
end Go.Proofs.Ytdmgdldadpkhgaa
