/-
  Sums of bytes and bits of which fewer are secret: the plain facts, and the walk of SumsFewer.
-/
import Derived.Test.YtdmgdldadpkhgaaWithin
import Derived.Test.YtdmgdldadpkhgaaAwake2
import Derived.Test.YtdmgdldadpkhgaaLaws
import Derived.Test.YtdmgdldadpkhgaaPlanA
set_option linter.unusedSimpArgs false
set_option linter.unusedVariables false
namespace Go.Proofs.Ytdmgdldadpkhgaa
open Go.RowKit

theorem andnot_of {t s : BitVec 8} (h : ∀ i < 8, t.getLsbD i = true → s.getLsbD i = true) : t &&& ~~~s = 0#8 := by
  apply BitVec.eq_of_getLsbD_eq
  intro i hi
  simp only [BitVec.getLsbD_and, BitVec.getLsbD_not, BitVec.getLsbD_zero, hi, decide_true, Bool.true_and]
  have := h i hi
  revert this
  cases t.getLsbD i <;> cases s.getLsbD i <;> simp
theorem of_andnot {t s : BitVec 8} (h : t &&& ~~~s = 0#8) : t = s &&& t := by
  apply BitVec.eq_of_getLsbD_eq
  intro i hi
  have := congrArg (fun v : BitVec 8 => v.getLsbD i) h
  simp only [BitVec.getLsbD_and, BitVec.getLsbD_not, BitVec.getLsbD_zero, hi, decide_true, Bool.true_and] at this ⊢
  revert this
  cases t.getLsbD i <;> cases s.getLsbD i <;> simp
theorem zT_fewer (x t p : BitVec 8) (h : zT x (t &&& p) = true) : zT x t = true := by
  unfold zT at *
  simp only [Bool.and_eq_true, beq_iff_eq, bne_iff_ne, ne_eq] at h ⊢
  obtain ⟨h1, h2⟩ := h
  have b1 : ∀ i < 8, x.getLsbD i = true → t.getLsbD i = true := fun i hi hx => by
    have := congrArg (fun z : BitVec 8 => z.getLsbD i) h1
    simp only [BitVec.getLsbD_and, BitVec.getLsbD_not, BitVec.getLsbD_zero, hi, hx, decide_true, Bool.true_and] at this
    revert this; cases t.getLsbD i <;> simp
  refine ⟨andnot_of b1, fun h3 => h2 ?_⟩
  apply BitVec.eq_of_getLsbD_eq
  intro i hi
  have := congrArg (fun z : BitVec 8 => z.getLsbD i) h3
  simp only [BitVec.getLsbD_or, BitVec.getLsbD_and, BitVec.getLsbD_zero] at this ⊢
  revert this; cases x.getLsbD i <;> cases t.getLsbD i <;> simp
theorem spr_under (z y : BitVec 8) (h : y &&& ~~~z = 0#8) : spr y &&& ~~~spr z = 0#8 := by
  have : ∀ t p : BitVec 8, spr (t &&& p) &&& ~~~ spr t = 0#8 := by decide +kernel
  have h1 := this z y
  rw [← of_andnot h] at h1
  exact h1
theorem Under.refl (t : ST) : Under t t := ⟨by simp, id, id, id, id⟩
theorem few_hid {z y a : BitVec 8} {d dt et : Bool} (hz : y &&& ~~~z = 0#8) (ht : et = true → dt = true) : Under (hidT y a d et) (hidT z a d dt) := by
  by_cases h1 : (y == 0#8 && !et) = true
  · have : hidT y a d et = T0 := by unfold hidT; rw [if_pos h1]
    rw [this]
    exact ⟨by simp [T0], by simp [T0], by simp [T0], by simp [T0], by simp [T0]⟩
  · have hz0 : ¬ (z == 0#8 && !dt) = true := by
      intro h
      rw [Bool.and_eq_true, beq_iff_eq, Bool.not_eq_true'] at h
      refine h1 ?_
      have : y = 0#8 := by have h5 := of_andnot hz; rw [h.1] at h5; simpa using h5
      have : et = false := by
        cases et
        · rfl
        · have := ht rfl; rw [h.2] at this; cases this
      simp [*]
    have top : ∀ t : ST, Under t TA := fun t => ⟨by simp [TA], by simp [TA], by simp [TA], by simp [TA], by simp [TA]⟩
    by_cases h2 : (d || dt) = true
    · have : hidT z a d dt = TA := by unfold hidT; rw [if_neg hz0, if_pos h2]
      rw [this]
      exact top _
    · have hd : d = false := by cases d <;> simp_all
      have hdt : dt = false := by cases dt <;> simp_all
      subst hd; subst hdt
      have het : et = false := by
        cases et
        · rfl
        · exact absurd (ht rfl) (by simp)
      subst het
      have e1 : hidT z a false false = ⟨spr z, bitAt (spr z) 7, true, zT a (spr z), true⟩ := by unfold hidT; rw [if_neg hz0, if_neg h2]
      have e2 : hidT y a false false = ⟨spr y, bitAt (spr y) 7, true, zT a (spr y), true⟩ := by unfold hidT; rw [if_neg h1, if_neg h2]
      have hzn : z ≠ 0#8 := by intro h; exact hz0 (by simp [h])
      rw [e1, e2]
      refine ⟨spr_under z y hz, fun _ => spr_top z hzn, fun _ => rfl, fun h => ?_, fun _ => rfl⟩
      have h3 := of_andnot (spr_under z y hz)
      have h4 : zT a (spr y) = true := h
      rw [h3] at h4
      exact zT_fewer a (spr z) (spr y) h4
theorem sec_fewer (t s p q : BitVec 8) (ct et : Bool) (h : et = true → ct = true) : secT (t &&& p) (s &&& q) et &&& ~~~secT t s ct = 0#8 := by
  refine andnot_of fun i hi hb => ?_
  cases hn : t.getLsbD i
  · cases hm : s.getLsbD i
    · unfold secT at hb
      cases et
      · simp [hn, hm] at hb
      · have := h rfl
        subst this
        simp [hn, hm] at hb
        unfold secT
        simp
        exact .inr hb
    · exact sec_s t s ct i hi hm
  · exact sec_t t s ct i hi hn
theorem few_add (x t y s p q : BitVec 8) (c ct d dt et ft : Bool) (h1 : et = true → ct = true) (h2 : ft = true → dt = true) :
    Under (hidT (secT (t &&& p) (s &&& q) et) (addR x y c d).a d ft) (hidT (secT t s ct) (addR x y c d).a d dt) := few_hid (sec_fewer t s p q ct et h1) h2
theorem few_sub (x t y s p q : BitVec 8) (c ct d dt et ft : Bool) (h1 : et = true → ct = true) (h2 : ft = true → dt = true) :
    Under (hidT (secT (t &&& p) (s &&& q) et) (subR x y c d).a d ft) (hidT (secT t s ct) (subR x y c d).a d dt) := few_hid (sec_fewer t s p q ct et h1) h2
theorem few_comp (t s p q a : BitVec 8) : Under (cmpT (t &&& p) (s &&& q) a) (cmpT t s a) := by
  have h := few_hid (z := t ||| s) (y := t &&& p ||| s &&& q) (a := a) (d := false) (dt := false) (et := false) (sec_fewer t s p q false false id) id
  exact ⟨h.a, h.n, id, h.z, h.c⟩

set_option maxRecDepth 100000 in
set_option maxHeartbeats 8000000 in
theorem less_walk (x t y s : BitVec 8) (c ct d dt : Bool) (p q r z : BitVec 8) (w : World) :
    Calls Try.prog 9 #[.agg #[B8 x, B8 t, B8 y, B8 s, .bool c, .bool ct, .bool d, .bool dt, B8 p, B8 q, B8 r, B8 z]] w (LawEnd w) := by
  have hu := u8_and
  have z0 := u8_lo r
  have z1 := u8_hi r
  have z2 := u8_lo z
  have z3 := u8_hi z
  have z4 : (u8 r % 2 == 1) = odd r := rfl
  have z5 := tm2 r
  have z6 : (u8 z % 2 == 1) = odd z := rfl
  have z7 := tm2 z
  obtain ⟨et, he⟩ : ∃ et, et = (ct && odd r) := ⟨_, rfl⟩
  obtain ⟨ft, hf⟩ : ∃ ft, ft = (dt && odd z) := ⟨_, rfl⟩
  have HE : Hid (et = true → ct = true) := Lib.hid (by subst he; cases ct <;> simp)
  have HF : Hid (ft = true → dt = true) := Lib.hid (by subst hf; cases dt <;> simp)
  have g1 : ct = true → odd r = et := by intro h; rw [he, h]; rfl
  have g2 : ct = false → et = false := by intro h; rw [he, h]; rfl
  have g3 : dt = true → odd z = ft := by intro h; rw [hf, h]; rfl
  have g4 : dt = false → ft = false := by intro h; rw [hf, h]; rfl
  clear he hf
  rcases Bool.eq_false_or_eq_true ct with hct | hct <;> rcases Bool.eq_false_or_eq_true dt with hdt | hdt
  all_goals
    first | have g5 := g1 hct | have g5 := g2 hct
    first | have g6 := g3 hdt | have g6 := g4 hdt
    clear g1 g2 g3 g4
    have HC := Lib.hid hct
    have HD := Lib.hid hdt
    go_enter Try.func9, Try.ntmps9
    go_upto_region 5 with fail
    refine wp_pin (fun w' => w'.cell? ⟨w.heap.size, 0, none⟩ = some (B8 x) ∧ w'.cell? ⟨w.heap.size, 1, none⟩ = some (B8 t) ∧ w'.cell? ⟨w.heap.size, 2, none⟩ = some (B8 y) ∧ w'.cell? ⟨w.heap.size, 3, none⟩ = some (B8 s) ∧ w'.cell? ⟨w.heap.size, 4, none⟩ = some (.bool c) ∧ w'.cell? ⟨w.heap.size, 5, none⟩ = some (.bool ct) ∧ w'.cell? ⟨w.heap.size, 6, none⟩ = some (.bool d) ∧ w'.cell? ⟨w.heap.size, 7, none⟩ = some (.bool dt) ∧ w'.cell? ⟨w.heap.size, 8, none⟩ = some (B8 p) ∧ w'.cell? ⟨w.heap.size, 9, none⟩ = some (B8 q) ∧ w'.cell? ⟨w.heap.size, 10, none⟩ = some (B8 r) ∧ w'.cell? ⟨w.heap.size, 11, none⟩ = some (B8 z) ∧ w'.cell? ⟨w.heap.size + 1, 0, none⟩ = some (B8 x) ∧ w'.cell? ⟨w.heap.size + 1, 1, none⟩ = some (B8 (t &&& p)) ∧ w'.cell? ⟨w.heap.size + 1 + 1, 0, none⟩ = some (B8 y) ∧ w'.cell? ⟨w.heap.size + 1 + 1, 1, none⟩ = some (B8 (s &&& q)) ∧ w'.cell? ⟨w.heap.size + 1 + 1 + 1, 0, none⟩ = some (.bool c) ∧ w'.cell? ⟨w.heap.size + 1 + 1 + 1, 1, none⟩ = some (.bool et) ∧ w'.cell? ⟨w.heap.size + 1 + 1 + 1 + 1, 0, none⟩ = some (.bool d) ∧ w'.cell? ⟨w.heap.size + 1 + 1 + 1 + 1, 1, none⟩ = some (.bool ft) ∧ Below w.heap.size w w') ?_ ?_
    · (try dsimp only)
      refine ⟨?_, ?_, ?_, ?_, ?_, ?_, ?_, ?_, ?_, ?_, ?_, ?_, ?_, ?_, ?_, ?_, ?_, ?_, ?_, ?_, ?_⟩ <;> first | (go_simp; done) | (simp [*]; done) | go_grown
    intro w1 T
    (try dsimp only at T)
    obtain ⟨hf_0, hf_1, hf_2, hf_3, hf_4, hf_5, hf_6, hf_7, hf_8, hf_9, hf_10, hf_11, ha_0, ha_1, hb_0, hb_1, hi_0, hi_1, hj_0, hj_1, hB⟩ := T
    have hsz := hB.size
    have hlf := klt hf_0
    have hla := klt ha_0
    have hlb := klt hb_0
    have hli := klt hi_0
    have hlj := klt hj_0
    have hnf0 : ¬ (w.heap.size = w1.heap.size) := by omega
    have hnf1 : ¬ (w.heap.size = w1.heap.size + 1) := by omega
    have hkf1 : w.heap.size < w1.heap.size + 1 := by omega
    have hnf2 : ¬ (w.heap.size = w1.heap.size + 1 + 1) := by omega
    have hkf2 : w.heap.size < w1.heap.size + 1 + 1 := by omega
    have hna0 : ¬ (w.heap.size + 1 = w1.heap.size) := by omega
    have hka1 : w.heap.size < w1.heap.size := by omega
    have hnb0 : ¬ (w.heap.size + 1 + 1 = w1.heap.size) := by omega
    have hkb1 : w.heap.size + 1 < w1.heap.size := by omega
    have hni0 : ¬ (w.heap.size + 1 + 1 + 1 = w1.heap.size) := by omega
    have hki1 : w.heap.size + 1 + 1 < w1.heap.size := by omega
    have hnj0 : ¬ (w.heap.size + 1 + 1 + 1 + 1 = w1.heap.size) := by omega
    have hkj1 : w.heap.size + 1 + 1 + 1 < w1.heap.size := by omega
    clear hu z0 z1 z2 z3 z4 z5 z6 z7 g5 g6 hct hdt HC HD
    refine wp_region_plan (fun w' => w'.cell? ⟨w.heap.size, 0, none⟩ = some (B8 x) ∧ w'.cell? ⟨w.heap.size, 1, none⟩ = some (B8 t) ∧ w'.cell? ⟨w.heap.size, 2, none⟩ = some (B8 y) ∧ w'.cell? ⟨w.heap.size, 3, none⟩ = some (B8 s) ∧ w'.cell? ⟨w.heap.size, 4, none⟩ = some (.bool c) ∧ w'.cell? ⟨w.heap.size, 5, none⟩ = some (.bool ct) ∧ w'.cell? ⟨w.heap.size, 6, none⟩ = some (.bool d) ∧ w'.cell? ⟨w.heap.size, 7, none⟩ = some (.bool dt) ∧ w'.cell? ⟨w.heap.size, 8, none⟩ = some (B8 p) ∧ w'.cell? ⟨w.heap.size, 9, none⟩ = some (B8 q) ∧ w'.cell? ⟨w.heap.size, 10, none⟩ = some (B8 r) ∧ w'.cell? ⟨w.heap.size, 11, none⟩ = some (B8 z) ∧ w'.cell? ⟨w.heap.size + 1, 0, none⟩ = some (B8 x) ∧ w'.cell? ⟨w.heap.size + 1, 1, none⟩ = some (B8 (t &&& p)) ∧ w'.cell? ⟨w.heap.size + 1 + 1, 0, none⟩ = some (B8 y) ∧ w'.cell? ⟨w.heap.size + 1 + 1, 1, none⟩ = some (B8 (s &&& q)) ∧ w'.cell? ⟨w.heap.size + 1 + 1 + 1, 0, none⟩ = some (.bool c) ∧ w'.cell? ⟨w.heap.size + 1 + 1 + 1, 1, none⟩ = some (.bool et) ∧ w'.cell? ⟨w.heap.size + 1 + 1 + 1 + 1, 0, none⟩ = some (.bool d) ∧ w'.cell? ⟨w.heap.size + 1 + 1 + 1 + 1, 1, none⟩ = some (.bool ft) ∧ Below w.heap.size w w') (by kernel_rfl) (by kernel_rfl) (by kernel_rfl) ?_ ?_
    · (try dsimp only)
      refine ⟨?_, ?_, ?_, ?_, ?_, ?_, ?_, ?_, ?_, ?_, ?_, ?_, ?_, ?_, ?_, ?_, ?_, ?_, ?_, ?_, ?_⟩ <;> first | (go_simp; done) | (simp [*]; done) | go_grown
    repeat (first
      | (refine Plan.val (v := ?_) ?_ ?_ ?_; rotate_left; (· rfl); (· (intro W hSw; (try dsimp only at hSw); go_simp; all_goals (first | (with_reducible rfl) | (constructor <;> (with_reducible rfl))))); (try simp only [Act.put, List.setIfInBounds_toArray, List.set_cons_zero, List.set_cons_succ]))
      | (refine Plan.no ?_ ?_; (· rfl); (try simp only [Act.put, List.setIfInBounds_toArray, List.set_cons_zero, List.set_cons_succ]))
      | (refine Plan.call (v := ?_) (f := ?_) (args := ?_) ?_ ?_ ?_ ?_; rotate_left 3; (· rfl); (· (intro W hSw; (try dsimp only at hSw); go_simp; all_goals (first | (with_reducible rfl) | (constructor <;> (with_reducible rfl))))); (· (intro W hSw; (try dsimp only at hSw); first | (go_at_call 12; ((with_reducible refine (add_n x (t &&& p) y (s &&& q) c et d ft _).mono ?_); rintro _ wz ⟨rfl, hb⟩; (refine ⟨?_, ?_⟩; (· with_reducible rfl); exact ⟨kc hb hSw.1, kc hb hSw.2.1, kc hb hSw.2.2.1, kc hb hSw.2.2.2.1, kc hb hSw.2.2.2.2.1, kc hb hSw.2.2.2.2.2.1, kc hb hSw.2.2.2.2.2.2.1, kc hb hSw.2.2.2.2.2.2.2.1, kc hb hSw.2.2.2.2.2.2.2.2.1, kc hb hSw.2.2.2.2.2.2.2.2.2.1, kc hb hSw.2.2.2.2.2.2.2.2.2.2.1, kc hb hSw.2.2.2.2.2.2.2.2.2.2.2.1, kc hb hSw.2.2.2.2.2.2.2.2.2.2.2.2.1, kc hb hSw.2.2.2.2.2.2.2.2.2.2.2.2.2.1, kc hb hSw.2.2.2.2.2.2.2.2.2.2.2.2.2.2.1, kc hb hSw.2.2.2.2.2.2.2.2.2.2.2.2.2.2.2.1, kc hb hSw.2.2.2.2.2.2.2.2.2.2.2.2.2.2.2.2.1, kc hb hSw.2.2.2.2.2.2.2.2.2.2.2.2.2.2.2.2.2.1, kc hb hSw.2.2.2.2.2.2.2.2.2.2.2.2.2.2.2.2.2.2.1, kc hb hSw.2.2.2.2.2.2.2.2.2.2.2.2.2.2.2.2.2.2.2.1, kb hSw.2.2.2.2.2.2.2.2.2.2.2.2.2.2.2.2.2.2.2.2 hb⟩))) | (go_at_call 12; ((with_reducible refine (add_n x t y s c ct d dt _).mono ?_); rintro _ wz ⟨rfl, hb⟩; (refine ⟨?_, ?_⟩; (· with_reducible rfl); exact ⟨kc hb hSw.1, kc hb hSw.2.1, kc hb hSw.2.2.1, kc hb hSw.2.2.2.1, kc hb hSw.2.2.2.2.1, kc hb hSw.2.2.2.2.2.1, kc hb hSw.2.2.2.2.2.2.1, kc hb hSw.2.2.2.2.2.2.2.1, kc hb hSw.2.2.2.2.2.2.2.2.1, kc hb hSw.2.2.2.2.2.2.2.2.2.1, kc hb hSw.2.2.2.2.2.2.2.2.2.2.1, kc hb hSw.2.2.2.2.2.2.2.2.2.2.2.1, kc hb hSw.2.2.2.2.2.2.2.2.2.2.2.2.1, kc hb hSw.2.2.2.2.2.2.2.2.2.2.2.2.2.1, kc hb hSw.2.2.2.2.2.2.2.2.2.2.2.2.2.2.1, kc hb hSw.2.2.2.2.2.2.2.2.2.2.2.2.2.2.2.1, kc hb hSw.2.2.2.2.2.2.2.2.2.2.2.2.2.2.2.2.1, kc hb hSw.2.2.2.2.2.2.2.2.2.2.2.2.2.2.2.2.2.1, kc hb hSw.2.2.2.2.2.2.2.2.2.2.2.2.2.2.2.2.2.2.1, kc hb hSw.2.2.2.2.2.2.2.2.2.2.2.2.2.2.2.2.2.2.2.1, kb hSw.2.2.2.2.2.2.2.2.2.2.2.2.2.2.2.2.2.2.2.2 hb⟩))) | (go_at_call 15; ((with_reducible refine (sub_n x (t &&& p) y (s &&& q) c et d ft _).mono ?_); rintro _ wz ⟨rfl, hb⟩; (refine ⟨?_, ?_⟩; (· with_reducible rfl); exact ⟨kc hb hSw.1, kc hb hSw.2.1, kc hb hSw.2.2.1, kc hb hSw.2.2.2.1, kc hb hSw.2.2.2.2.1, kc hb hSw.2.2.2.2.2.1, kc hb hSw.2.2.2.2.2.2.1, kc hb hSw.2.2.2.2.2.2.2.1, kc hb hSw.2.2.2.2.2.2.2.2.1, kc hb hSw.2.2.2.2.2.2.2.2.2.1, kc hb hSw.2.2.2.2.2.2.2.2.2.2.1, kc hb hSw.2.2.2.2.2.2.2.2.2.2.2.1, kc hb hSw.2.2.2.2.2.2.2.2.2.2.2.2.1, kc hb hSw.2.2.2.2.2.2.2.2.2.2.2.2.2.1, kc hb hSw.2.2.2.2.2.2.2.2.2.2.2.2.2.2.1, kc hb hSw.2.2.2.2.2.2.2.2.2.2.2.2.2.2.2.1, kc hb hSw.2.2.2.2.2.2.2.2.2.2.2.2.2.2.2.2.1, kc hb hSw.2.2.2.2.2.2.2.2.2.2.2.2.2.2.2.2.2.1, kc hb hSw.2.2.2.2.2.2.2.2.2.2.2.2.2.2.2.2.2.2.1, kc hb hSw.2.2.2.2.2.2.2.2.2.2.2.2.2.2.2.2.2.2.2.1, kb hSw.2.2.2.2.2.2.2.2.2.2.2.2.2.2.2.2.2.2.2.2 hb⟩))) | (go_at_call 15; ((with_reducible refine (sub_n x t y s c ct d dt _).mono ?_); rintro _ wz ⟨rfl, hb⟩; (refine ⟨?_, ?_⟩; (· with_reducible rfl); exact ⟨kc hb hSw.1, kc hb hSw.2.1, kc hb hSw.2.2.1, kc hb hSw.2.2.2.1, kc hb hSw.2.2.2.2.1, kc hb hSw.2.2.2.2.2.1, kc hb hSw.2.2.2.2.2.2.1, kc hb hSw.2.2.2.2.2.2.2.1, kc hb hSw.2.2.2.2.2.2.2.2.1, kc hb hSw.2.2.2.2.2.2.2.2.2.1, kc hb hSw.2.2.2.2.2.2.2.2.2.2.1, kc hb hSw.2.2.2.2.2.2.2.2.2.2.2.1, kc hb hSw.2.2.2.2.2.2.2.2.2.2.2.2.1, kc hb hSw.2.2.2.2.2.2.2.2.2.2.2.2.2.1, kc hb hSw.2.2.2.2.2.2.2.2.2.2.2.2.2.2.1, kc hb hSw.2.2.2.2.2.2.2.2.2.2.2.2.2.2.2.1, kc hb hSw.2.2.2.2.2.2.2.2.2.2.2.2.2.2.2.2.1, kc hb hSw.2.2.2.2.2.2.2.2.2.2.2.2.2.2.2.2.2.1, kc hb hSw.2.2.2.2.2.2.2.2.2.2.2.2.2.2.2.2.2.2.1, kc hb hSw.2.2.2.2.2.2.2.2.2.2.2.2.2.2.2.2.2.2.2.1, kb hSw.2.2.2.2.2.2.2.2.2.2.2.2.2.2.2.2.2.2.2.2 hb⟩))) | (go_at_call 17; ((with_reducible refine (comp_n x (t &&& p) y (s &&& q) _).mono ?_); rintro _ wz ⟨rfl, hb⟩; (refine ⟨?_, ?_⟩; (· with_reducible rfl); exact ⟨kc hb hSw.1, kc hb hSw.2.1, kc hb hSw.2.2.1, kc hb hSw.2.2.2.1, kc hb hSw.2.2.2.2.1, kc hb hSw.2.2.2.2.2.1, kc hb hSw.2.2.2.2.2.2.1, kc hb hSw.2.2.2.2.2.2.2.1, kc hb hSw.2.2.2.2.2.2.2.2.1, kc hb hSw.2.2.2.2.2.2.2.2.2.1, kc hb hSw.2.2.2.2.2.2.2.2.2.2.1, kc hb hSw.2.2.2.2.2.2.2.2.2.2.2.1, kc hb hSw.2.2.2.2.2.2.2.2.2.2.2.2.1, kc hb hSw.2.2.2.2.2.2.2.2.2.2.2.2.2.1, kc hb hSw.2.2.2.2.2.2.2.2.2.2.2.2.2.2.1, kc hb hSw.2.2.2.2.2.2.2.2.2.2.2.2.2.2.2.1, kc hb hSw.2.2.2.2.2.2.2.2.2.2.2.2.2.2.2.2.1, kc hb hSw.2.2.2.2.2.2.2.2.2.2.2.2.2.2.2.2.2.1, kc hb hSw.2.2.2.2.2.2.2.2.2.2.2.2.2.2.2.2.2.2.1, kc hb hSw.2.2.2.2.2.2.2.2.2.2.2.2.2.2.2.2.2.2.2.1, kb hSw.2.2.2.2.2.2.2.2.2.2.2.2.2.2.2.2.2.2.2.2 hb⟩))) | (go_at_call 17; ((with_reducible refine (comp_n x t y s _).mono ?_); rintro _ wz ⟨rfl, hb⟩; (refine ⟨?_, ?_⟩; (· with_reducible rfl); exact ⟨kc hb hSw.1, kc hb hSw.2.1, kc hb hSw.2.2.1, kc hb hSw.2.2.2.1, kc hb hSw.2.2.2.2.1, kc hb hSw.2.2.2.2.2.1, kc hb hSw.2.2.2.2.2.2.1, kc hb hSw.2.2.2.2.2.2.2.1, kc hb hSw.2.2.2.2.2.2.2.2.1, kc hb hSw.2.2.2.2.2.2.2.2.2.1, kc hb hSw.2.2.2.2.2.2.2.2.2.2.1, kc hb hSw.2.2.2.2.2.2.2.2.2.2.2.1, kc hb hSw.2.2.2.2.2.2.2.2.2.2.2.2.1, kc hb hSw.2.2.2.2.2.2.2.2.2.2.2.2.2.1, kc hb hSw.2.2.2.2.2.2.2.2.2.2.2.2.2.2.1, kc hb hSw.2.2.2.2.2.2.2.2.2.2.2.2.2.2.2.1, kc hb hSw.2.2.2.2.2.2.2.2.2.2.2.2.2.2.2.2.1, kc hb hSw.2.2.2.2.2.2.2.2.2.2.2.2.2.2.2.2.2.1, kc hb hSw.2.2.2.2.2.2.2.2.2.2.2.2.2.2.2.2.2.2.1, kc hb hSw.2.2.2.2.2.2.2.2.2.2.2.2.2.2.2.2.2.2.2.1, kb hSw.2.2.2.2.2.2.2.2.2.2.2.2.2.2.2.2.2.2.2.2 hb⟩))) | (go_at_call 27; ((with_reducible refine (within_yes _ _ _ (few_add x t y s p q c ct d dt et ft HE.out HF.out) _).mono ?_); rintro _ wz ⟨rfl, hb⟩; (refine ⟨?_, ?_⟩; (· with_reducible rfl); exact ⟨kc hb hSw.1, kc hb hSw.2.1, kc hb hSw.2.2.1, kc hb hSw.2.2.2.1, kc hb hSw.2.2.2.2.1, kc hb hSw.2.2.2.2.2.1, kc hb hSw.2.2.2.2.2.2.1, kc hb hSw.2.2.2.2.2.2.2.1, kc hb hSw.2.2.2.2.2.2.2.2.1, kc hb hSw.2.2.2.2.2.2.2.2.2.1, kc hb hSw.2.2.2.2.2.2.2.2.2.2.1, kc hb hSw.2.2.2.2.2.2.2.2.2.2.2.1, kc hb hSw.2.2.2.2.2.2.2.2.2.2.2.2.1, kc hb hSw.2.2.2.2.2.2.2.2.2.2.2.2.2.1, kc hb hSw.2.2.2.2.2.2.2.2.2.2.2.2.2.2.1, kc hb hSw.2.2.2.2.2.2.2.2.2.2.2.2.2.2.2.1, kc hb hSw.2.2.2.2.2.2.2.2.2.2.2.2.2.2.2.2.1, kc hb hSw.2.2.2.2.2.2.2.2.2.2.2.2.2.2.2.2.2.1, kc hb hSw.2.2.2.2.2.2.2.2.2.2.2.2.2.2.2.2.2.2.1, kc hb hSw.2.2.2.2.2.2.2.2.2.2.2.2.2.2.2.2.2.2.2.1, kb hSw.2.2.2.2.2.2.2.2.2.2.2.2.2.2.2.2.2.2.2.2 hb⟩))) | (go_at_call 27; ((with_reducible refine (within_yes _ _ _ (few_sub x t y s p q c ct d dt et ft HE.out HF.out) _).mono ?_); rintro _ wz ⟨rfl, hb⟩; (refine ⟨?_, ?_⟩; (· with_reducible rfl); exact ⟨kc hb hSw.1, kc hb hSw.2.1, kc hb hSw.2.2.1, kc hb hSw.2.2.2.1, kc hb hSw.2.2.2.2.1, kc hb hSw.2.2.2.2.2.1, kc hb hSw.2.2.2.2.2.2.1, kc hb hSw.2.2.2.2.2.2.2.1, kc hb hSw.2.2.2.2.2.2.2.2.1, kc hb hSw.2.2.2.2.2.2.2.2.2.1, kc hb hSw.2.2.2.2.2.2.2.2.2.2.1, kc hb hSw.2.2.2.2.2.2.2.2.2.2.2.1, kc hb hSw.2.2.2.2.2.2.2.2.2.2.2.2.1, kc hb hSw.2.2.2.2.2.2.2.2.2.2.2.2.2.1, kc hb hSw.2.2.2.2.2.2.2.2.2.2.2.2.2.2.1, kc hb hSw.2.2.2.2.2.2.2.2.2.2.2.2.2.2.2.1, kc hb hSw.2.2.2.2.2.2.2.2.2.2.2.2.2.2.2.2.1, kc hb hSw.2.2.2.2.2.2.2.2.2.2.2.2.2.2.2.2.2.1, kc hb hSw.2.2.2.2.2.2.2.2.2.2.2.2.2.2.2.2.2.2.1, kc hb hSw.2.2.2.2.2.2.2.2.2.2.2.2.2.2.2.2.2.2.2.1, kb hSw.2.2.2.2.2.2.2.2.2.2.2.2.2.2.2.2.2.2.2.2 hb⟩))) | (go_at_call 27; ((with_reducible refine (within_yes _ _ _ (few_comp t s p q _) _).mono ?_); rintro _ wz ⟨rfl, hb⟩; (refine ⟨?_, ?_⟩; (· with_reducible rfl); exact ⟨kc hb hSw.1, kc hb hSw.2.1, kc hb hSw.2.2.1, kc hb hSw.2.2.2.1, kc hb hSw.2.2.2.2.1, kc hb hSw.2.2.2.2.2.1, kc hb hSw.2.2.2.2.2.2.1, kc hb hSw.2.2.2.2.2.2.2.1, kc hb hSw.2.2.2.2.2.2.2.2.1, kc hb hSw.2.2.2.2.2.2.2.2.2.1, kc hb hSw.2.2.2.2.2.2.2.2.2.2.1, kc hb hSw.2.2.2.2.2.2.2.2.2.2.2.1, kc hb hSw.2.2.2.2.2.2.2.2.2.2.2.2.1, kc hb hSw.2.2.2.2.2.2.2.2.2.2.2.2.2.1, kc hb hSw.2.2.2.2.2.2.2.2.2.2.2.2.2.2.1, kc hb hSw.2.2.2.2.2.2.2.2.2.2.2.2.2.2.2.1, kc hb hSw.2.2.2.2.2.2.2.2.2.2.2.2.2.2.2.2.1, kc hb hSw.2.2.2.2.2.2.2.2.2.2.2.2.2.2.2.2.2.1, kc hb hSw.2.2.2.2.2.2.2.2.2.2.2.2.2.2.2.2.2.2.1, kc hb hSw.2.2.2.2.2.2.2.2.2.2.2.2.2.2.2.2.2.2.2.1, kb hSw.2.2.2.2.2.2.2.2.2.2.2.2.2.2.2.2.2.2.2.2 hb⟩))) | (go_at_call 14; ((with_reducible refine (awake_c _).mono ?_); rintro _ wz ⟨rfl, hb⟩; (refine ⟨?_, ?_⟩; (· with_reducible rfl); exact ⟨kc hb hSw.1, kc hb hSw.2.1, kc hb hSw.2.2.1, kc hb hSw.2.2.2.1, kc hb hSw.2.2.2.2.1, kc hb hSw.2.2.2.2.2.1, kc hb hSw.2.2.2.2.2.2.1, kc hb hSw.2.2.2.2.2.2.2.1, kc hb hSw.2.2.2.2.2.2.2.2.1, kc hb hSw.2.2.2.2.2.2.2.2.2.1, kc hb hSw.2.2.2.2.2.2.2.2.2.2.1, kc hb hSw.2.2.2.2.2.2.2.2.2.2.2.1, kc hb hSw.2.2.2.2.2.2.2.2.2.2.2.2.1, kc hb hSw.2.2.2.2.2.2.2.2.2.2.2.2.2.1, kc hb hSw.2.2.2.2.2.2.2.2.2.2.2.2.2.2.1, kc hb hSw.2.2.2.2.2.2.2.2.2.2.2.2.2.2.2.1, kc hb hSw.2.2.2.2.2.2.2.2.2.2.2.2.2.2.2.2.1, kc hb hSw.2.2.2.2.2.2.2.2.2.2.2.2.2.2.2.2.2.1, kc hb hSw.2.2.2.2.2.2.2.2.2.2.2.2.2.2.2.2.2.2.1, kc hb hSw.2.2.2.2.2.2.2.2.2.2.2.2.2.2.2.2.2.2.2.1, kb hSw.2.2.2.2.2.2.2.2.2.2.2.2.2.2.2.2.2.2.2.2 hb⟩))))); (try simp only [Act.put, List.setIfInBounds_toArray, List.set_cons_zero, List.set_cons_succ])))
    refine Plan.done ?_
    intro wz T
    (try dsimp only at T)
    have hBe := T.2.2.2.2.2.2.2.2.2.2.2.2.2.2.2.2.2.2.2.2
    go_wp2
    go_ret
    exact ⟨rfl, hBe⟩
end Go.Proofs.Ytdmgdldadpkhgaa
