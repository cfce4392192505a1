/- Layer 6, the program: the -/
import Derived.Test.YtjcmblbnbpikfaaGreatDoorProg1
import Derived.Test.YtjcmblbnbpikfaaGreatDoorRef2
import Derived.RegionTactic
set_option linter.unusedSimpArgs false
set_option linter.unusedVariables false
set_option maxRecDepth 100000
namespace Go.Proofs.YtjcmblbnbpikfaaGreatDoor
open Lib (hid)
open Go.RowKit Go.PlainAid

theorem in_letters_c (b : UInt8) (w : World) : Calls Tryz.prog 70 #[.string ⟨#[97, 98, 99, 100, 101, 102, 103, 104, 105, 106, 107, 108, 109, 110, 111, 112, 113, 114, 115, 116, 117, 118, 119, 120, 121, 122]⟩, .int .u8 (bI b)] w fun e w' => e = .returned (.bool (isLet b)) ∧ Below w.heap.size w w' := by
 have h := in_c lettersL (by decide) (by decide) b w
 rw [in_letters] at h
 exact h
theorem in_digits_c (b : UInt8) (w : World) : Calls Tryz.prog 70 #[.string ⟨#[48, 49, 50, 51, 52, 53, 54, 55, 56, 57]⟩, .int .u8 (bI b)] w fun e w' => e = .returned (.bool (isDig 10 b)) ∧ Below w.heap.size w w' := by
 have h := in_c digitsL (by decide) (by decide) b w
 rw [in_digits] at h
 exact h
theorem in_hexes_c (b : UInt8) (w : World) : Calls Tryz.prog 70 #[.string ⟨#[48, 49, 50, 51, 52, 53, 54, 55, 56, 57, 97, 98, 99, 100, 101, 102]⟩, .int .u8 (bI b)] w fun e w' => e = .returned (.bool (isDig 16 b)) ∧ Below w.heap.size w w' := by
 have h := in_c hexesL (by decide) (by decide) b w
 rw [in_hexes] at h
 exact h
theorem in_blanks_c (b : UInt8) (w : World) : Calls Tryz.prog 70 #[.string ⟨#[32, 9]⟩, .int .u8 (bI b)] w fun e w' => e = .returned (.bool (isBlank b)) ∧ Below w.heap.size w w' := by
 have h := in_c [32, 9] (by decide) (by decide) b w
 rw [in_blanks] at h
 exact h
theorem in_solid_c (b : UInt8) (w : World) : Calls Tryz.prog 70 #[.string ⟨#[97, 98, 99, 100, 101, 102, 103, 104, 105, 106, 107, 108, 109, 110, 111, 112, 113, 114, 115, 116, 117, 118, 119, 120, 121, 122, 48, 49, 50, 51, 52, 53, 54, 55, 56, 57, 36]⟩, .int .u8 (bI b)] w fun e w' => e = .returned (.bool (isGlue b)) ∧ Below w.heap.size w w' := by
 have h := in_c solidL (by decide) (by decide) b w
 rw [in_solid] at h
 exact h
def tokV (o : OneT) : Value := .tuple #[.agg #[.int .i64 o.k, .string (txB o.t), .int .i64 o.n, .int .i64 0, .int .i64 0], .int .i64 (o.len : Int), .int .i64 o.e]
theorem into_goto_hid {P : Program} {a : Act} {w : World} {Q : Exit → Act → World → Prop} {c C rest : Code} {n l : Nat} (hC : Hid (C = c)) (hf : findLabel c l = some rest) (h : rest.wp P (Into P C n Q) a w) : Into P C (n + 1) Q (.goto l) a w := by
 have e : C = c := hC
 subst e
 exact Into.goto hf h
theorem wp_goto_in {P : Program} {a : Act} {w : World} {Q : Exit → Act → World → Prop} {K : Act → World → Prop} {c C rest : Code} {n l b : Nat} (hC : Hid (C = c)) (hf : findLabel c l = some rest) (h : rest.wp P (Into P C n Q) a w) : (Code.goto l).wp P (Exit.inBlock b (Exit.then K (Into P C (n + 1) Q))) a w := by
 apply wp_goto
 exact into_goto_hid hC hf h
structure Mid (w : World) (S : ByteArray) (K : Int) (c0 c1 c2 : Value) (u : World) : Prop where
 s : u.cell? ⟨w.heap.size, 0, none⟩ = some (.string S)
 r0 : u.cell? ⟨w.heap.size + 1, 0, none⟩ = some (.int .i64 0)
 r1 : u.cell? ⟨w.heap.size + 1, 1, none⟩ = some (.string ⟨#[]⟩)
 r2 : u.cell? ⟨w.heap.size + 1, 2, none⟩ = some (.int .i64 0)
 r3 : u.cell? ⟨w.heap.size + 1, 3, none⟩ = some (.int .i64 0)
 r4 : u.cell? ⟨w.heap.size + 1, 4, none⟩ = some (.int .i64 0)
 g0 : u.frozen? ⟨w.heap.size + 1, 0, none⟩ = false
 g1 : u.frozen? ⟨w.heap.size + 1, 1, none⟩ = false
 g2 : u.frozen? ⟨w.heap.size + 1, 2, none⟩ = false
 g3 : u.frozen? ⟨w.heap.size + 1, 3, none⟩ = false
 g4 : u.frozen? ⟨w.heap.size + 1, 4, none⟩ = false
 t0 : u.cell? ⟨w.heap.size + 1 + 1, 0, none⟩ = some c0
 t1 : u.cell? ⟨w.heap.size + 1 + 1, 1, none⟩ = some c1
 t2 : u.cell? ⟨w.heap.size + 1 + 1, 2, none⟩ = some c2
 t3 : u.cell? ⟨w.heap.size + 1 + 1, 3, none⟩ = some (.int .i64 0)
 t4 : u.cell? ⟨w.heap.size + 1 + 1, 4, none⟩ = some (.int .i64 0)
 f0 : u.frozen? ⟨w.heap.size + 1 + 1, 0, none⟩ = false
 f1 : u.frozen? ⟨w.heap.size + 1 + 1, 1, none⟩ = false
 f2 : u.frozen? ⟨w.heap.size + 1 + 1, 2, none⟩ = false
 f3 : u.frozen? ⟨w.heap.size + 1 + 1, 3, none⟩ = false
 f4 : u.frozen? ⟨w.heap.size + 1 + 1, 4, none⟩ = false
 a : u.cell? ⟨w.heap.size + 1 + 1 + 1, 0, none⟩ = some (.int .i64 K)
 fa : u.frozen? ⟨w.heap.size + 1 + 1 + 1, 0, none⟩ = false
 n : u.cell? ⟨w.heap.size + 1 + 1 + 1 + 1, 0, none⟩ = some (.func (.func 86) #[] #[ptr0 (w.heap.size + 1 + 1 + 1), ptr0 w.heap.size])
 sz : w.heap.size + 5 ≤ u.heap.size
 B : Below w.heap.size w u
theorem Mid.below {w u v : World} {S : ByteArray} {K : Int} {c0 c1 c2 : Value} (h : Mid w S K c0 c1 c2 u) (hb : Below u.heap.size u v) : Mid w S K c0 c1 c2 v :=
 ⟨kc hb h.s, kc hb h.r0, kc hb h.r1, kc hb h.r2, kc hb h.r3, kc hb h.r4, kfz hb (klt h.r0) h.g0, kfz hb (klt h.r1) h.g1, kfz hb (klt h.r2) h.g2, kfz hb (klt h.r3) h.g3, kfz hb (klt h.r4) h.g4,
  kc hb h.t0, kc hb h.t1, kc hb h.t2, kc hb h.t3, kc hb h.t4, kfz hb (klt h.t0) h.f0, kfz hb (klt h.t1) h.f1, kfz hb (klt h.t2) h.f2, kfz hb (klt h.t3) h.f3, kfz hb (klt h.t4) h.f4,
  kc hb h.a, kfz hb (klt h.a) h.fa, kc hb h.n, Nat.le_trans h.sz hb.size, kb h.B hb⟩
theorem Mid.take {w u v : World} {S : ByteArray} {K K' : Int} {c0 c1 c2 : Value} (h : Mid w S K c0 c1 c2 u) (hg : u.grownBy v (some (w.heap.size + 1 + 1 + 1))) (ha : v.cell? ⟨w.heap.size + 1 + 1 + 1, 0, none⟩ = some (.int .i64 K')) (fa : v.frozen? ⟨w.heap.size + 1 + 1 + 1, 0, none⟩ = false) : Mid w S K' c0 c1 c2 v := by
 have n0 : w.heap.size ≠ w.heap.size + 1 + 1 + 1 := by omega
 have n1 : w.heap.size + 1 ≠ w.heap.size + 1 + 1 + 1 := by omega
 have n2 : w.heap.size + 1 + 1 ≠ w.heap.size + 1 + 1 + 1 := by omega
 have n4 : w.heap.size + 1 + 1 + 1 + 1 ≠ w.heap.size + 1 + 1 + 1 := by omega
 exact ⟨kg hg n0 h.s, kg hg n1 h.r0, kg hg n1 h.r1, kg hg n1 h.r2, kg hg n1 h.r3, kg hg n1 h.r4, kgf hg n1 (klt h.r0) h.g0, kgf hg n1 (klt h.r1) h.g1, kgf hg n1 (klt h.r2) h.g2, kgf hg n1 (klt h.r3) h.g3, kgf hg n1 (klt h.r4) h.g4,
  kg hg n2 h.t0, kg hg n2 h.t1, kg hg n2 h.t2, kg hg n2 h.t3, kg hg n2 h.t4, kgf hg n2 (klt h.t0) h.f0, kgf hg n2 (klt h.t1) h.f1, kgf hg n2 (klt h.t2) h.f2, kgf hg n2 (klt h.t3) h.f3, kgf hg n2 (klt h.t4) h.f4,
  ha, fa, kg hg n4 h.n, Nat.le_trans h.sz hg.size, Below.grown h.B hg h.B.size (fun k hk => by cases hk; omega)⟩
theorem glue_at (l : List UInt8) (R : Nat) : glueAt l R = isGlue (at8 l R) := by
 by_cases h : R < l.length
 ·exact glueAt_in l R h
 ·rw [glueAt_end l R (by omega), at8_end l R (by omega)]; rfl
def tokE (e : Int) : Value := .tuple #[.agg #[.int .i64 0, .string ⟨#[]⟩, .int .i64 0, .int .i64 0, .int .i64 0], .int .i64 0, .int .i64 e]
theorem word_v (l : List UInt8) (R : Nat) (h : runL isLet l 0 = R) : (isGlue (at8 l R) = true ∧ tokV (oneWord l) = tokE 11) ∨ (isGlue (at8 l R) = false ∧ tokV (oneWord l) = .tuple #[.agg #[.int .i64 1, .string (txB ((l.take R).drop 0)), .int .i64 0, .int .i64 0, .int .i64 0], .int .i64 (R : Int), .int .i64 0]) := by
 unfold oneWord
 dsimp only
 rw [h, glue_at]
 cases isGlue (at8 l R)
 ·exact .inr ⟨rfl, by rw [if_neg (by simp)]; rfl⟩
 ·exact .inl ⟨rfl, by rw [if_pos rfl]; rfl⟩
theorem num_v (base : Nat) (l : List UInt8) (k R : Nat) (N : Int) (h : runL (isDig base) l k = R) (hR : R ≠ k) (hN : numV base (l.drop k) 0 = N) : (isGlue (at8 l R) = true ∧ tokV (oneNum base l k) = tokE 11) ∨ (isGlue (at8 l R) = false ∧ decide (65535 < N) = true ∧ tokV (oneNum base l k) = tokE 10) ∨ (isGlue (at8 l R) = false ∧ decide (65535 < N) = false ∧ tokV (oneNum base l k) = .tuple #[.agg #[.int .i64 2, .string ⟨#[]⟩, .int .i64 N, .int .i64 0, .int .i64 0], .int .i64 (R : Int), .int .i64 0]) := by
 unfold oneNum
 dsimp only
 rw [h, hN, glue_at]
 cases isGlue (at8 l R)
 ·right
  rw [if_neg (by rintro (h | h); exact hR h; cases h)]
  by_cases h2 : 65535 < N
  ·exact .inl ⟨rfl, decide_eq_true h2, by rw [if_pos h2]; rfl⟩
  ·exact .inr ⟨rfl, decide_eq_false h2, by rw [if_neg h2]; rfl⟩
 ·exact .inl ⟨rfl, by rw [if_pos (.inr rfl)]; rfl⟩
set_option maxHeartbeats 4000000 in
theorem tokp_no (l : List UInt8) (hl : l.length ≤ 100000) (h0 : 0 < l.length) (hc : isLet (at8 l 0) = false) (hd : isDig 10 (at8 l 0) = false) (h46 : at8 l 0 ≠ 46) (h36 : at8 l 0 ≠ 36) (w : World) :
  Calls Tryz.prog 71 #[.string (txB l)] w fun e w' => e = .returned (tokV (oneD l)) ∧ Below w.heap.size w w' := by
 have hv : oneD l = oneNo 22 := by have := oneD_no l 0 h0 hc hd h46 h36; rwa [List.drop_zero] at this
 rw [hv]
 have HL := hid (fun W => in_letters_c (at8 l 0) W)
 rw [hc] at HL
 have HD := hid (fun W => in_digits_c (at8 l 0) W)
 rw [hd] at HD
 have e46 : (bI (at8 l 0) == 46) = false := by rw [bI_eq _ 46 46 rfl]; exact beq_eq_false_iff_ne.2 h46
 have e36 : (bI (at8 l 0) == 36) = false := by rw [bI_eq _ 36 36 rfl]; exact beq_eq_false_iff_ne.2 h36
 clear hv h46 h36 hc hd
 go_enter Tryz.func71, Tryz.ntmps71
 go_wp2_with fail
 refine wp_scope_hid 2 fun C hC => ?_
 go_wp2_with fail
 refine (nextp_c l (w.heap.size + 1 + 1 + 1) w.heap.size 0 (by omega) 0 rfl _ (by go_simp) (by go_simp)).mono ?_
 rintro _ _ ⟨rfl, rfl⟩
 go_wp2_with fail
 refine (HL.out _).mono ?_
 rintro _ u0 ⟨rfl, hb⟩
 have hm : Mid w (txB l) 0 (.int .i64 0) (.string ⟨#[]⟩) (.int .i64 0) u0 := Mid.below (by constructor <;> first | (go_simp; done) | (simp; done) | (simp; omega) | go_grown) hb
 clear hb
 have HM0 := hid hm
 obtain ⟨hs_0, hr_0, hr_1, hr_2, hr_3, hr_4, fr_0, fr_1, fr_2, fr_3, fr_4, ht_0, ht_1, ht_2, ht_3, ht_4, ft_0, ft_1, ft_2, ft_3, ft_4, ha_0, fa_0, hn_0, hsz, hB⟩ := hm
 go_wp2_with fail
 refine (HD.out _).mono ?_
 rintro _ u1 ⟨rfl, hb⟩
 have hm := Mid.below HM0.out hb
 clear hb hs_0 hr_0 hr_1 hr_2 hr_3 hr_4 fr_0 fr_1 fr_2 fr_3 fr_4 ht_0 ht_1 ht_2 ht_3 ht_4 ft_0 ft_1 ft_2 ft_3 ft_4 ha_0 fa_0 hn_0 hsz hB
 have HM1 := hid hm
 obtain ⟨hs_0, hr_0, hr_1, hr_2, hr_3, hr_4, fr_0, fr_1, fr_2, fr_3, fr_4, ht_0, ht_1, ht_2, ht_3, ht_4, ft_0, ft_1, ft_2, ft_3, ft_4, ha_0, fa_0, hn_0, hsz, hB⟩ := hm
 go_wp2_with fail
 go_wp2
 rw [Into.ret]
 refine bodyPost_ret (v := .tuple #[.agg #[.int .i64 0, .string ⟨#[]⟩, .int .i64 0, .int .i64 0, .int .i64 0], .int .i64 0, .int .i64 22]) (by simp [results, Tryz.results71, go_sem, hr_0, hr_1, hr_2, hr_3, hr_4] <;> first | done | rfl) rfl ⟨rfl, ?_⟩
 repeat (first | (refine Below.setCell ?_ (by dsimp only; omega) _) | refine Below.drew ?_)
 exact hB
set_option maxHeartbeats 4000000 in
theorem tokp_dot (l : List UInt8) (hl : l.length ≤ 100000) (h0 : 0 < l.length) (hc : at8 l 0 = 46) (w : World) :
  Calls Tryz.prog 71 #[.string (txB l)] w fun e w' => e = .returned (tokV (oneD l)) ∧ Below w.heap.size w w' := by
 have hlet : isLet (at8 l 0) = false := by rw [hc]; decide
 have hv := oneD_dot l 0 h0 hlet hc
 rw [List.drop_zero] at hv
 have HL := hid (fun W => in_letters_c (at8 l 0) W)
 rw [hlet] at HL
 have HD := hid (fun W => in_digits_c (at8 l 0) W)
 rw [show isDig 10 (at8 l 0) = false from by rw [hc]; decide] at HD
 have e46 : (bI (at8 l 0) == 46) = true := by rw [hc]; rfl
 have e36 : (bI (at8 l 0) == 36) = false := by rw [hc]; rfl
 have e1 : l[1]? = some 46 ↔ at8 l 1 = 46 := by
  by_cases h1 : 1 < l.length
  ·rw [at8_some l 1 h1]; simp
  ·rw [List.getElem?_eq_none (by omega), at8_end l 1 (by omega)]; simp
 by_cases h46 : at8 l 1 = 46
 ·rw [hv, if_pos (e1.2 h46)]
  have n46 : (bI (at8 l 1) != 46) = false := by rw [h46]; rfl
  clear hv e1 hc hlet h46
  go_enter Tryz.func71, Tryz.ntmps71
  go_wp2_with fail
  refine wp_scope_hid 2 fun C hC => ?_
  go_wp2_with fail
  refine (nextp_c l (w.heap.size + 1 + 1 + 1) w.heap.size 0 (by omega) 0 rfl _ (by go_simp) (by go_simp)).mono ?_
  rintro _ _ ⟨rfl, rfl⟩
  go_wp2_with fail
  refine (HL.out _).mono ?_
  rintro _ u0 ⟨rfl, hb⟩
  have hm : Mid w (txB l) 0 (.int .i64 0) (.string ⟨#[]⟩) (.int .i64 0) u0 := Mid.below (by constructor <;> first | (go_simp; done) | (simp; done) | (simp; omega) | go_grown) hb
  clear hb
  have HM0 := hid hm
  obtain ⟨hs_0, hr_0, hr_1, hr_2, hr_3, hr_4, fr_0, fr_1, fr_2, fr_3, fr_4, ht_0, ht_1, ht_2, ht_3, ht_4, ft_0, ft_1, ft_2, ft_3, ft_4, ha_0, fa_0, hn_0, hsz, hB⟩ := hm
  go_wp2_with fail
  refine (HD.out _).mono ?_
  rintro _ u1 ⟨rfl, hb⟩
  have hm := Mid.below HM0.out hb
  clear hb hs_0 hr_0 hr_1 hr_2 hr_3 hr_4 fr_0 fr_1 fr_2 fr_3 fr_4 ht_0 ht_1 ht_2 ht_3 ht_4 ft_0 ft_1 ft_2 ft_3 ft_4 ha_0 fa_0 hn_0 hsz hB
  have HM1 := hid hm
  obtain ⟨hs_0, hr_0, hr_1, hr_2, hr_3, hr_4, fr_0, fr_1, fr_2, fr_3, fr_4, ht_0, ht_1, ht_2, ht_3, ht_4, ft_0, ft_1, ft_2, ft_3, ft_4, ha_0, fa_0, hn_0, hsz, hB⟩ := hm
  go_wp2_with fail
  refine wp_goto_in hC rfl ?_
  go_wp2_with fail
  refine (nextp_c l (w.heap.size + 1 + 1 + 1) w.heap.size 1 (by omega) 1 rfl _ (by go_simp) (by go_simp)).mono ?_
  rintro _ _ ⟨rfl, rfl⟩
  go_wp2_with fail
  refine wp_pin (Mid w (txB l) 2 (.int .i64 0) (.string ⟨#[]⟩) (.int .i64 0)) (by constructor <;> first | (go_simp; done) | (simp; done) | (simp; omega) | go_grown) fun u2 hm => ?_
  clear hs_0 hr_0 hr_1 hr_2 hr_3 hr_4 fr_0 fr_1 fr_2 fr_3 fr_4 ht_0 ht_1 ht_2 ht_3 ht_4 ft_0 ft_1 ft_2 ft_3 ft_4 ha_0 fa_0 hn_0 hsz hB
  obtain ⟨hs_0, hr_0, hr_1, hr_2, hr_3, hr_4, fr_0, fr_1, fr_2, fr_3, fr_4, ht_0, ht_1, ht_2, ht_3, ht_4, ft_0, ft_1, ft_2, ft_3, ft_4, ha_0, fa_0, hn_0, hsz, hB⟩ := hm
  go_region
  all_goals
   go_wp2
   rw [Into.ret]
   refine bodyPost_ret (v := .tuple #[.agg #[.int .i64 3, .string ⟨#[]⟩, .int .i64 0, .int .i64 0, .int .i64 0], .int .i64 2, .int .i64 0]) (by simp [results, Tryz.results71, go_sem, hr_0, hr_1, hr_2, hr_3, hr_4] <;> first | done | rfl) rfl ⟨rfl, ?_⟩
   repeat (first | (refine Below.setCell ?_ (by dsimp only; omega) _) | refine Below.drew ?_)
   exact hB
 ·rw [hv, if_neg (fun h => h46 (e1.1 h))]
  have n46 : (bI (at8 l 1) != 46) = true := by unfold bne; rw [bI_eq _ 46 46 rfl, beq_eq_false_iff_ne.2 h46]; rfl
  clear hv e1 hc hlet h46
  go_enter Tryz.func71, Tryz.ntmps71
  go_wp2_with fail
  refine wp_scope_hid 2 fun C hC => ?_
  go_wp2_with fail
  refine (nextp_c l (w.heap.size + 1 + 1 + 1) w.heap.size 0 (by omega) 0 rfl _ (by go_simp) (by go_simp)).mono ?_
  rintro _ _ ⟨rfl, rfl⟩
  go_wp2_with fail
  refine (HL.out _).mono ?_
  rintro _ u0 ⟨rfl, hb⟩
  have hm : Mid w (txB l) 0 (.int .i64 0) (.string ⟨#[]⟩) (.int .i64 0) u0 := Mid.below (by constructor <;> first | (go_simp; done) | (simp; done) | (simp; omega) | go_grown) hb
  clear hb
  have HM0 := hid hm
  obtain ⟨hs_0, hr_0, hr_1, hr_2, hr_3, hr_4, fr_0, fr_1, fr_2, fr_3, fr_4, ht_0, ht_1, ht_2, ht_3, ht_4, ft_0, ft_1, ft_2, ft_3, ft_4, ha_0, fa_0, hn_0, hsz, hB⟩ := hm
  go_wp2_with fail
  refine (HD.out _).mono ?_
  rintro _ u1 ⟨rfl, hb⟩
  have hm := Mid.below HM0.out hb
  clear hb hs_0 hr_0 hr_1 hr_2 hr_3 hr_4 fr_0 fr_1 fr_2 fr_3 fr_4 ht_0 ht_1 ht_2 ht_3 ht_4 ft_0 ft_1 ft_2 ft_3 ft_4 ha_0 fa_0 hn_0 hsz hB
  have HM1 := hid hm
  obtain ⟨hs_0, hr_0, hr_1, hr_2, hr_3, hr_4, fr_0, fr_1, fr_2, fr_3, fr_4, ht_0, ht_1, ht_2, ht_3, ht_4, ft_0, ft_1, ft_2, ft_3, ft_4, ha_0, fa_0, hn_0, hsz, hB⟩ := hm
  go_wp2_with fail
  refine wp_goto_in hC rfl ?_
  go_wp2_with fail
  refine (nextp_c l (w.heap.size + 1 + 1 + 1) w.heap.size 1 (by omega) 1 rfl _ (by go_simp) (by go_simp)).mono ?_
  rintro _ _ ⟨rfl, rfl⟩
  go_wp2
  rw [Into.ret]
  refine bodyPost_ret (v := .tuple #[.agg #[.int .i64 0, .string ⟨#[]⟩, .int .i64 0, .int .i64 0, .int .i64 0], .int .i64 0, .int .i64 11]) (by simp [results, Tryz.results71, go_sem, hr_0, hr_1, hr_2, hr_3, hr_4] <;> first | done | rfl) rfl ⟨rfl, ?_⟩
  repeat (first | (refine Below.setCell ?_ (by dsimp only; omega) _) | refine Below.drew ?_)
  exact hB
set_option maxHeartbeats 4000000 in
theorem tokp_word (l : List UInt8) (hl : l.length ≤ 100000) (h0 : 0 < l.length) (hc : isLet (at8 l 0) = true) (w : World) :
  Calls Tryz.prog 71 #[.string (txB l)] w fun e w' => e = .returned (tokV (oneD l)) ∧ Below w.heap.size w w' := by
 have hv := oneD_word l 0 h0 hc
 rw [List.drop_zero] at hv
 rw [hv]
 obtain ⟨R, hR⟩ : ∃ R, runL isLet l 0 = R := ⟨_, rfl⟩
 have hRl := runL_le isLet l 0 (by omega)
 rw [hR] at hRl
 have hw := word_v l R hR
 have HL := hid (fun W => in_letters_c (at8 l 0) W)
 rw [hc] at HL
 have HG := hid (fun W => in_solid_c (at8 l R) W)
 obtain ⟨RI, hRI⟩ : ∃ RI, ((R : Nat) : Int) = RI := ⟨_, rfl⟩
 rw [hRI] at hw
 have HRI := hid (And.intro (show ((runL isLet l 0 : Nat) : Int) = RI from by rw [hR]; exact hRI) hRI)
 have HR := hid hR
 generalize hO : tokV (oneWord l) = O at *
 obtain ⟨T, hT⟩ : ∃ T, txB ((l.take R).drop 0) = T := ⟨_, rfl⟩
 rw [hT] at hw
 have HT := hid hT
 clear hv hc hR hRI hO hT
 rcases hw with ⟨g1, HO⟩ | ⟨g1, HO⟩
 ·rw [g1] at HG
  clear g1
  have HO2 := hid HO
  clear HO
  go_enter Tryz.func71, Tryz.ntmps71
  go_wp2_with fail
  refine wp_scope_hid 2 fun C hC => ?_
  go_wp2_with fail
  refine (nextp_c l (w.heap.size + 1 + 1 + 1) w.heap.size 0 (by omega) 0 rfl _ (by go_simp) (by go_simp)).mono ?_
  rintro _ _ ⟨rfl, rfl⟩
  go_wp2_with fail
  refine (HL.out _).mono ?_
  rintro _ u0 ⟨rfl, hb⟩
  have hm : Mid w (txB l) 0 (.int .i64 0) (.string ⟨#[]⟩) (.int .i64 0) u0 := Mid.below (by constructor <;> first | (go_simp; done) | (simp; done) | (simp; omega) | go_grown) hb
  clear hb
  have HM0 := hid hm
  obtain ⟨hs_0, hr_0, hr_1, hr_2, hr_3, hr_4, fr_0, fr_1, fr_2, fr_3, fr_4, ht_0, ht_1, ht_2, ht_3, ht_4, ft_0, ft_1, ft_2, ft_3, ft_4, ha_0, fa_0, hn_0, hsz, hB⟩ := hm
  go_wp2_with fail
  refine (takep_c l hl lettersL isLet (by decide) (by decide) in_letters rfl (w.heap.size + 1 + 1 + 1) w.heap.size (w.heap.size + 1 + 1 + 1 + 1) 0 (by omega) (by omega) (by omega) 0 rfl _ (by go_simp) (by go_simp) (by go_simp) (by go_simp)).mono ?_
  rintro _ u1 ⟨rfl, hg, ha, fa⟩
  rw [HRI.out.1] at ha
  rw [HR.out, HT.out]
  have hm : Mid w (txB l) RI (.int .i64 0) (.string ⟨#[]⟩) (.int .i64 0) u1 := Mid.take HM0.out hg ha fa
  have HM1 := hid hm
  clear hg ha fa hs_0 hr_0 hr_1 hr_2 hr_3 hr_4 fr_0 fr_1 fr_2 fr_3 fr_4 ht_0 ht_1 ht_2 ht_3 ht_4 ft_0 ft_1 ft_2 ft_3 ft_4 ha_0 fa_0 hn_0 hsz hB
  obtain ⟨hs_0, hr_0, hr_1, hr_2, hr_3, hr_4, fr_0, fr_1, fr_2, fr_3, fr_4, ht_0, ht_1, ht_2, ht_3, ht_4, ft_0, ft_1, ft_2, ft_3, ft_4, ha_0, fa_0, hn_0, hsz, hB⟩ := hm
  go_wp2_with fail
  refine wp_goto_in hC rfl ?_
  go_wp2_with fail
  refine (nextp_c l (w.heap.size + 1 + 1 + 1) w.heap.size R hRl RI HRI.out.2.symm _ (by go_simp) (by go_simp)).mono ?_
  rintro _ _ ⟨rfl, rfl⟩
  go_wp2_with fail
  refine (HG.out _).mono ?_
  rintro _ u2 ⟨rfl, hb⟩
  have hm : Mid w (txB l) RI (.int .i64 1) (.string T) (.int .i64 0) u2 := Mid.below (by constructor <;> first | (go_simp; done) | (simp; done) | (simp; omega) | go_grown) hb
  clear hb hs_0 hr_0 hr_1 hr_2 hr_3 hr_4 fr_0 fr_1 fr_2 fr_3 fr_4 ht_0 ht_1 ht_2 ht_3 ht_4 ft_0 ft_1 ft_2 ft_3 ft_4 ha_0 fa_0 hn_0 hsz hB
  have HM2 := hid hm
  obtain ⟨hs_0, hr_0, hr_1, hr_2, hr_3, hr_4, fr_0, fr_1, fr_2, fr_3, fr_4, ht_0, ht_1, ht_2, ht_3, ht_4, ft_0, ft_1, ft_2, ft_3, ft_4, ha_0, fa_0, hn_0, hsz, hB⟩ := hm
  go_wp2_with fail
  go_wp2
  rw [Into.ret]
  refine bodyPost_ret (v := .tuple #[.agg #[.int .i64 0, .string ⟨#[]⟩, .int .i64 0, .int .i64 0, .int .i64 0], .int .i64 0, .int .i64 11]) (by simp [results, Tryz.results71, go_sem, hr_0, hr_1, hr_2, hr_3, hr_4] <;> first | done | rfl) rfl ⟨by rw [HO2.out]; rfl, ?_⟩
  repeat (first | (refine Below.setCell ?_ (by dsimp only; omega) _) | refine Below.drew ?_)
  exact hB
 ·rw [g1] at HG
  clear g1
  have HO2 := hid HO
  clear HO
  go_enter Tryz.func71, Tryz.ntmps71
  go_wp2_with fail
  refine wp_scope_hid 2 fun C hC => ?_
  go_wp2_with fail
  refine (nextp_c l (w.heap.size + 1 + 1 + 1) w.heap.size 0 (by omega) 0 rfl _ (by go_simp) (by go_simp)).mono ?_
  rintro _ _ ⟨rfl, rfl⟩
  go_wp2_with fail
  refine (HL.out _).mono ?_
  rintro _ u0 ⟨rfl, hb⟩
  have hm : Mid w (txB l) 0 (.int .i64 0) (.string ⟨#[]⟩) (.int .i64 0) u0 := Mid.below (by constructor <;> first | (go_simp; done) | (simp; done) | (simp; omega) | go_grown) hb
  clear hb
  have HM0 := hid hm
  obtain ⟨hs_0, hr_0, hr_1, hr_2, hr_3, hr_4, fr_0, fr_1, fr_2, fr_3, fr_4, ht_0, ht_1, ht_2, ht_3, ht_4, ft_0, ft_1, ft_2, ft_3, ft_4, ha_0, fa_0, hn_0, hsz, hB⟩ := hm
  go_wp2_with fail
  refine (takep_c l hl lettersL isLet (by decide) (by decide) in_letters rfl (w.heap.size + 1 + 1 + 1) w.heap.size (w.heap.size + 1 + 1 + 1 + 1) 0 (by omega) (by omega) (by omega) 0 rfl _ (by go_simp) (by go_simp) (by go_simp) (by go_simp)).mono ?_
  rintro _ u1 ⟨rfl, hg, ha, fa⟩
  rw [HRI.out.1] at ha
  rw [HR.out, HT.out]
  have hm : Mid w (txB l) RI (.int .i64 0) (.string ⟨#[]⟩) (.int .i64 0) u1 := Mid.take HM0.out hg ha fa
  have HM1 := hid hm
  clear hg ha fa hs_0 hr_0 hr_1 hr_2 hr_3 hr_4 fr_0 fr_1 fr_2 fr_3 fr_4 ht_0 ht_1 ht_2 ht_3 ht_4 ft_0 ft_1 ft_2 ft_3 ft_4 ha_0 fa_0 hn_0 hsz hB
  obtain ⟨hs_0, hr_0, hr_1, hr_2, hr_3, hr_4, fr_0, fr_1, fr_2, fr_3, fr_4, ht_0, ht_1, ht_2, ht_3, ht_4, ft_0, ft_1, ft_2, ft_3, ft_4, ha_0, fa_0, hn_0, hsz, hB⟩ := hm
  go_wp2_with fail
  refine wp_goto_in hC rfl ?_
  go_wp2_with fail
  refine (nextp_c l (w.heap.size + 1 + 1 + 1) w.heap.size R hRl RI HRI.out.2.symm _ (by go_simp) (by go_simp)).mono ?_
  rintro _ _ ⟨rfl, rfl⟩
  go_wp2_with fail
  refine (HG.out _).mono ?_
  rintro _ u2 ⟨rfl, hb⟩
  have hm : Mid w (txB l) RI (.int .i64 1) (.string T) (.int .i64 0) u2 := Mid.below (by constructor <;> first | (go_simp; done) | (simp; done) | (simp; omega) | go_grown) hb
  clear hb hs_0 hr_0 hr_1 hr_2 hr_3 hr_4 fr_0 fr_1 fr_2 fr_3 fr_4 ht_0 ht_1 ht_2 ht_3 ht_4 ft_0 ft_1 ft_2 ft_3 ft_4 ha_0 fa_0 hn_0 hsz hB
  have HM2 := hid hm
  obtain ⟨hs_0, hr_0, hr_1, hr_2, hr_3, hr_4, fr_0, fr_1, fr_2, fr_3, fr_4, ht_0, ht_1, ht_2, ht_3, ht_4, ft_0, ft_1, ft_2, ft_3, ft_4, ha_0, fa_0, hn_0, hsz, hB⟩ := hm
  go_wp2_with fail
  go_region
  all_goals
   go_wp2
   rw [Into.ret]
   refine bodyPost_ret (v := .tuple #[.agg #[.int .i64 1, .string T, .int .i64 0, .int .i64 0, .int .i64 0], .int .i64 RI, .int .i64 0]) (by simp [results, Tryz.results71, go_sem, hr_0, hr_1, hr_2, hr_3, hr_4] <;> first | done | rfl) rfl ⟨by rw [HO2.out], ?_⟩
   repeat (first | (refine Below.setCell ?_ (by dsimp only; omega) _) | refine Below.drew ?_)
   exact hB
set_option maxHeartbeats 4000000 in
theorem tokp_dec (l : List UInt8) (hl : l.length ≤ 100000) (h0 : 0 < l.length) (hc : isLet (at8 l 0) = false) (hd : isDig 10 (at8 l 0) = true) (h46 : at8 l 0 ≠ 46) (h36 : at8 l 0 ≠ 36) (w : World) :
  Calls Tryz.prog 71 #[.string (txB l)] w fun e w' => e = .returned (tokV (oneD l)) ∧ Below w.heap.size w w' := by
 have hv : oneD l = oneNum 10 l 0 := by have := oneD_dec l 0 h0 hc hd h46 h36; rwa [List.drop_zero] at this
 rw [hv]
 have HL := hid (fun W => in_letters_c (at8 l 0) W)
 rw [hc] at HL
 have HD := hid (fun W => in_digits_c (at8 l 0) W)
 rw [hd] at HD
 obtain ⟨R, hR⟩ : ∃ R, runL (isDig 10) l 0 = R := ⟨_, rfl⟩
 obtain ⟨N, hN⟩ : ∃ N, numV 10 (l.drop 0) 0 = N := ⟨_, rfl⟩
 have hRl := runL_le (isDig 10) l 0 (by omega)
 have hRg := runL_ge (isDig 10) l (0 + 1)
 have hrd := run_digits 10 l 0 (by omega)
 rw [hR] at hRl hrd
 rw [hN] at hrd
 have hstep : isDig 10 (at8 l 0) = true → 0 < l.length → R ≠ 0 := fun hd hlt => by
  rw [← hR, runL_yes (isDig 10) l 0 hlt (by rw [← at8_get l 0 hlt]; exact hd)]
  omega
 have HG := hid (fun W => in_solid_c (at8 l R) W)
 have HPn := hid (parsen_c ((l.take R).drop 0) (by rw [List.length_drop, List.length_take]; omega) 10 (by omega) hrd.1)
 rw [hrd.2, show ((10 : Nat) : Int) = 10 from rfl] at HPn
 obtain ⟨RI, hRI⟩ : ∃ RI, ((R : Nat) : Int) = RI := ⟨_, rfl⟩
 have HRI := hid (And.intro (show ((runL (isDig 10) l 0 : Nat) : Int) = RI from by rw [hR]; exact hRI) hRI)
 have HR := hid hR
 have hw := num_v 10 l 0 R N hR (hstep hd h0) hN
 rw [hRI] at hw
 generalize hO : tokV (oneNum 10 l 0) = O at *
 obtain ⟨T, hT⟩ : ∃ T, txB ((l.take R).drop 0) = T := ⟨_, rfl⟩
 rw [hT] at HPn
 have HT := hid hT
 clear hv hc hd h46 h36 hstep hrd hR hN hRg hRI hO hT
 rcases hw with ⟨g1, HO⟩ | ⟨g1, n1, HO⟩ | ⟨g1, n1, HO⟩
 ·rw [g1] at HG
  clear g1
  have HO2 := hid HO
  clear HO
  go_enter Tryz.func71, Tryz.ntmps71
  go_wp2_with fail
  refine wp_scope_hid 2 fun C hC => ?_
  go_wp2_with fail
  refine (nextp_c l (w.heap.size + 1 + 1 + 1) w.heap.size 0 (by omega) 0 rfl _ (by go_simp) (by go_simp)).mono ?_
  rintro _ _ ⟨rfl, rfl⟩
  go_wp2_with fail
  refine (HL.out _).mono ?_
  rintro _ u0 ⟨rfl, hb⟩
  have hm : Mid w (txB l) 0 (.int .i64 0) (.string ⟨#[]⟩) (.int .i64 0) u0 := Mid.below (by constructor <;> first | (go_simp; done) | (simp; done) | (simp; omega) | go_grown) hb
  clear hb
  have HM0 := hid hm
  obtain ⟨hs_0, hr_0, hr_1, hr_2, hr_3, hr_4, fr_0, fr_1, fr_2, fr_3, fr_4, ht_0, ht_1, ht_2, ht_3, ht_4, ft_0, ft_1, ft_2, ft_3, ft_4, ha_0, fa_0, hn_0, hsz, hB⟩ := hm
  go_wp2_with fail
  refine (HD.out _).mono ?_
  rintro _ u1 ⟨rfl, hb⟩
  have hm := Mid.below HM0.out hb
  clear hb hs_0 hr_0 hr_1 hr_2 hr_3 hr_4 fr_0 fr_1 fr_2 fr_3 fr_4 ht_0 ht_1 ht_2 ht_3 ht_4 ft_0 ft_1 ft_2 ft_3 ft_4 ha_0 fa_0 hn_0 hsz hB
  have HM1 := hid hm
  obtain ⟨hs_0, hr_0, hr_1, hr_2, hr_3, hr_4, fr_0, fr_1, fr_2, fr_3, fr_4, ht_0, ht_1, ht_2, ht_3, ht_4, ft_0, ft_1, ft_2, ft_3, ft_4, ha_0, fa_0, hn_0, hsz, hB⟩ := hm
  go_wp2_with fail
  refine (takep_c l hl digitsL (isDig 10) (by decide) (by decide) in_digits rfl (w.heap.size + 1 + 1 + 1) w.heap.size (w.heap.size + 1 + 1 + 1 + 1) 0 (by omega) (by omega) (by omega) 0 rfl _ (by go_simp) (by go_simp) (by go_simp) (by go_simp)).mono ?_
  rintro _ u2 ⟨rfl, hg, ha, fa⟩
  rw [HRI.out.1] at ha
  rw [HR.out, HT.out]
  have hm : Mid w (txB l) RI (.int .i64 0) (.string ⟨#[]⟩) (.int .i64 0) u2 := Mid.take HM1.out hg ha fa
  have HM2 := hid hm
  clear hg ha fa hs_0 hr_0 hr_1 hr_2 hr_3 hr_4 fr_0 fr_1 fr_2 fr_3 fr_4 ht_0 ht_1 ht_2 ht_3 ht_4 ft_0 ft_1 ft_2 ft_3 ft_4 ha_0 fa_0 hn_0 hsz hB
  obtain ⟨hs_0, hr_0, hr_1, hr_2, hr_3, hr_4, fr_0, fr_1, fr_2, fr_3, fr_4, ht_0, ht_1, ht_2, ht_3, ht_4, ft_0, ft_1, ft_2, ft_3, ft_4, ha_0, fa_0, hn_0, hsz, hB⟩ := hm
  go_wp2_with fail
  refine (HPn.out _).mono ?_
  rintro _ _ ⟨rfl, rfl⟩
  go_wp2_with fail
  refine wp_goto_in hC rfl ?_
  go_wp2_with fail
  refine (nextp_c l (w.heap.size + 1 + 1 + 1) w.heap.size R hRl RI HRI.out.2.symm _ (by go_simp) (by go_simp)).mono ?_
  rintro _ _ ⟨rfl, rfl⟩
  go_wp2_with fail
  refine (HG.out _).mono ?_
  rintro _ u3 ⟨rfl, hb⟩
  have hm : Mid w (txB l) RI (.int .i64 2) (.string ⟨#[]⟩) (.int .i64 N) u3 := Mid.below (by constructor <;> first | (go_simp; done) | (simp; done) | (simp; omega) | go_grown) hb
  clear hb hs_0 hr_0 hr_1 hr_2 hr_3 hr_4 fr_0 fr_1 fr_2 fr_3 fr_4 ht_0 ht_1 ht_2 ht_3 ht_4 ft_0 ft_1 ft_2 ft_3 ft_4 ha_0 fa_0 hn_0 hsz hB
  have HM3 := hid hm
  obtain ⟨hs_0, hr_0, hr_1, hr_2, hr_3, hr_4, fr_0, fr_1, fr_2, fr_3, fr_4, ht_0, ht_1, ht_2, ht_3, ht_4, ft_0, ft_1, ft_2, ft_3, ft_4, ha_0, fa_0, hn_0, hsz, hB⟩ := hm
  go_wp2_with fail
  go_wp2
  rw [Into.ret]
  refine bodyPost_ret (v := .tuple #[.agg #[.int .i64 0, .string ⟨#[]⟩, .int .i64 0, .int .i64 0, .int .i64 0], .int .i64 0, .int .i64 11]) (by simp [results, Tryz.results71, go_sem, hr_0, hr_1, hr_2, hr_3, hr_4] <;> first | done | rfl) rfl ⟨by rw [HO2.out]; rfl, ?_⟩
  repeat (first | (refine Below.setCell ?_ (by dsimp only; omega) _) | refine Below.drew ?_)
  exact hB
 ·rw [g1] at HG
  clear g1
  have HO2 := hid HO
  clear HO
  go_enter Tryz.func71, Tryz.ntmps71
  go_wp2_with fail
  refine wp_scope_hid 2 fun C hC => ?_
  go_wp2_with fail
  refine (nextp_c l (w.heap.size + 1 + 1 + 1) w.heap.size 0 (by omega) 0 rfl _ (by go_simp) (by go_simp)).mono ?_
  rintro _ _ ⟨rfl, rfl⟩
  go_wp2_with fail
  refine (HL.out _).mono ?_
  rintro _ u0 ⟨rfl, hb⟩
  have hm : Mid w (txB l) 0 (.int .i64 0) (.string ⟨#[]⟩) (.int .i64 0) u0 := Mid.below (by constructor <;> first | (go_simp; done) | (simp; done) | (simp; omega) | go_grown) hb
  clear hb
  have HM0 := hid hm
  obtain ⟨hs_0, hr_0, hr_1, hr_2, hr_3, hr_4, fr_0, fr_1, fr_2, fr_3, fr_4, ht_0, ht_1, ht_2, ht_3, ht_4, ft_0, ft_1, ft_2, ft_3, ft_4, ha_0, fa_0, hn_0, hsz, hB⟩ := hm
  go_wp2_with fail
  refine (HD.out _).mono ?_
  rintro _ u1 ⟨rfl, hb⟩
  have hm := Mid.below HM0.out hb
  clear hb hs_0 hr_0 hr_1 hr_2 hr_3 hr_4 fr_0 fr_1 fr_2 fr_3 fr_4 ht_0 ht_1 ht_2 ht_3 ht_4 ft_0 ft_1 ft_2 ft_3 ft_4 ha_0 fa_0 hn_0 hsz hB
  have HM1 := hid hm
  obtain ⟨hs_0, hr_0, hr_1, hr_2, hr_3, hr_4, fr_0, fr_1, fr_2, fr_3, fr_4, ht_0, ht_1, ht_2, ht_3, ht_4, ft_0, ft_1, ft_2, ft_3, ft_4, ha_0, fa_0, hn_0, hsz, hB⟩ := hm
  go_wp2_with fail
  refine (takep_c l hl digitsL (isDig 10) (by decide) (by decide) in_digits rfl (w.heap.size + 1 + 1 + 1) w.heap.size (w.heap.size + 1 + 1 + 1 + 1) 0 (by omega) (by omega) (by omega) 0 rfl _ (by go_simp) (by go_simp) (by go_simp) (by go_simp)).mono ?_
  rintro _ u2 ⟨rfl, hg, ha, fa⟩
  rw [HRI.out.1] at ha
  rw [HR.out, HT.out]
  have hm : Mid w (txB l) RI (.int .i64 0) (.string ⟨#[]⟩) (.int .i64 0) u2 := Mid.take HM1.out hg ha fa
  have HM2 := hid hm
  clear hg ha fa hs_0 hr_0 hr_1 hr_2 hr_3 hr_4 fr_0 fr_1 fr_2 fr_3 fr_4 ht_0 ht_1 ht_2 ht_3 ht_4 ft_0 ft_1 ft_2 ft_3 ft_4 ha_0 fa_0 hn_0 hsz hB
  obtain ⟨hs_0, hr_0, hr_1, hr_2, hr_3, hr_4, fr_0, fr_1, fr_2, fr_3, fr_4, ht_0, ht_1, ht_2, ht_3, ht_4, ft_0, ft_1, ft_2, ft_3, ft_4, ha_0, fa_0, hn_0, hsz, hB⟩ := hm
  go_wp2_with fail
  refine (HPn.out _).mono ?_
  rintro _ _ ⟨rfl, rfl⟩
  go_wp2_with fail
  refine wp_goto_in hC rfl ?_
  go_wp2_with fail
  refine (nextp_c l (w.heap.size + 1 + 1 + 1) w.heap.size R hRl RI HRI.out.2.symm _ (by go_simp) (by go_simp)).mono ?_
  rintro _ _ ⟨rfl, rfl⟩
  go_wp2_with fail
  refine (HG.out _).mono ?_
  rintro _ u3 ⟨rfl, hb⟩
  have hm : Mid w (txB l) RI (.int .i64 2) (.string ⟨#[]⟩) (.int .i64 N) u3 := Mid.below (by constructor <;> first | (go_simp; done) | (simp; done) | (simp; omega) | go_grown) hb
  clear hb hs_0 hr_0 hr_1 hr_2 hr_3 hr_4 fr_0 fr_1 fr_2 fr_3 fr_4 ht_0 ht_1 ht_2 ht_3 ht_4 ft_0 ft_1 ft_2 ft_3 ft_4 ha_0 fa_0 hn_0 hsz hB
  have HM3 := hid hm
  obtain ⟨hs_0, hr_0, hr_1, hr_2, hr_3, hr_4, fr_0, fr_1, fr_2, fr_3, fr_4, ht_0, ht_1, ht_2, ht_3, ht_4, ft_0, ft_1, ft_2, ft_3, ft_4, ha_0, fa_0, hn_0, hsz, hB⟩ := hm
  go_wp2_with fail
  go_wp2
  rw [Into.ret]
  refine bodyPost_ret (v := .tuple #[.agg #[.int .i64 0, .string ⟨#[]⟩, .int .i64 0, .int .i64 0, .int .i64 0], .int .i64 0, .int .i64 10]) (by simp [results, Tryz.results71, go_sem, hr_0, hr_1, hr_2, hr_3, hr_4] <;> first | done | rfl) rfl ⟨by rw [HO2.out]; rfl, ?_⟩
  repeat (first | (refine Below.setCell ?_ (by dsimp only; omega) _) | refine Below.drew ?_)
  exact hB
 ·rw [g1] at HG
  clear g1
  have HO2 := hid HO
  clear HO
  go_enter Tryz.func71, Tryz.ntmps71
  go_wp2_with fail
  refine wp_scope_hid 2 fun C hC => ?_
  go_wp2_with fail
  refine (nextp_c l (w.heap.size + 1 + 1 + 1) w.heap.size 0 (by omega) 0 rfl _ (by go_simp) (by go_simp)).mono ?_
  rintro _ _ ⟨rfl, rfl⟩
  go_wp2_with fail
  refine (HL.out _).mono ?_
  rintro _ u0 ⟨rfl, hb⟩
  have hm : Mid w (txB l) 0 (.int .i64 0) (.string ⟨#[]⟩) (.int .i64 0) u0 := Mid.below (by constructor <;> first | (go_simp; done) | (simp; done) | (simp; omega) | go_grown) hb
  clear hb
  have HM0 := hid hm
  obtain ⟨hs_0, hr_0, hr_1, hr_2, hr_3, hr_4, fr_0, fr_1, fr_2, fr_3, fr_4, ht_0, ht_1, ht_2, ht_3, ht_4, ft_0, ft_1, ft_2, ft_3, ft_4, ha_0, fa_0, hn_0, hsz, hB⟩ := hm
  go_wp2_with fail
  refine (HD.out _).mono ?_
  rintro _ u1 ⟨rfl, hb⟩
  have hm := Mid.below HM0.out hb
  clear hb hs_0 hr_0 hr_1 hr_2 hr_3 hr_4 fr_0 fr_1 fr_2 fr_3 fr_4 ht_0 ht_1 ht_2 ht_3 ht_4 ft_0 ft_1 ft_2 ft_3 ft_4 ha_0 fa_0 hn_0 hsz hB
  have HM1 := hid hm
  obtain ⟨hs_0, hr_0, hr_1, hr_2, hr_3, hr_4, fr_0, fr_1, fr_2, fr_3, fr_4, ht_0, ht_1, ht_2, ht_3, ht_4, ft_0, ft_1, ft_2, ft_3, ft_4, ha_0, fa_0, hn_0, hsz, hB⟩ := hm
  go_wp2_with fail
  refine (takep_c l hl digitsL (isDig 10) (by decide) (by decide) in_digits rfl (w.heap.size + 1 + 1 + 1) w.heap.size (w.heap.size + 1 + 1 + 1 + 1) 0 (by omega) (by omega) (by omega) 0 rfl _ (by go_simp) (by go_simp) (by go_simp) (by go_simp)).mono ?_
  rintro _ u2 ⟨rfl, hg, ha, fa⟩
  rw [HRI.out.1] at ha
  rw [HR.out, HT.out]
  have hm : Mid w (txB l) RI (.int .i64 0) (.string ⟨#[]⟩) (.int .i64 0) u2 := Mid.take HM1.out hg ha fa
  have HM2 := hid hm
  clear hg ha fa hs_0 hr_0 hr_1 hr_2 hr_3 hr_4 fr_0 fr_1 fr_2 fr_3 fr_4 ht_0 ht_1 ht_2 ht_3 ht_4 ft_0 ft_1 ft_2 ft_3 ft_4 ha_0 fa_0 hn_0 hsz hB
  obtain ⟨hs_0, hr_0, hr_1, hr_2, hr_3, hr_4, fr_0, fr_1, fr_2, fr_3, fr_4, ht_0, ht_1, ht_2, ht_3, ht_4, ft_0, ft_1, ft_2, ft_3, ft_4, ha_0, fa_0, hn_0, hsz, hB⟩ := hm
  go_wp2_with fail
  refine (HPn.out _).mono ?_
  rintro _ _ ⟨rfl, rfl⟩
  go_wp2_with fail
  refine wp_goto_in hC rfl ?_
  go_wp2_with fail
  refine (nextp_c l (w.heap.size + 1 + 1 + 1) w.heap.size R hRl RI HRI.out.2.symm _ (by go_simp) (by go_simp)).mono ?_
  rintro _ _ ⟨rfl, rfl⟩
  go_wp2_with fail
  refine (HG.out _).mono ?_
  rintro _ u3 ⟨rfl, hb⟩
  have hm : Mid w (txB l) RI (.int .i64 2) (.string ⟨#[]⟩) (.int .i64 N) u3 := Mid.below (by constructor <;> first | (go_simp; done) | (simp; done) | (simp; omega) | go_grown) hb
  clear hb hs_0 hr_0 hr_1 hr_2 hr_3 hr_4 fr_0 fr_1 fr_2 fr_3 fr_4 ht_0 ht_1 ht_2 ht_3 ht_4 ft_0 ft_1 ft_2 ft_3 ft_4 ha_0 fa_0 hn_0 hsz hB
  have HM3 := hid hm
  obtain ⟨hs_0, hr_0, hr_1, hr_2, hr_3, hr_4, fr_0, fr_1, fr_2, fr_3, fr_4, ht_0, ht_1, ht_2, ht_3, ht_4, ft_0, ft_1, ft_2, ft_3, ft_4, ha_0, fa_0, hn_0, hsz, hB⟩ := hm
  go_wp2_with fail
  go_region
  all_goals
   go_wp2
   rw [Into.ret]
   refine bodyPost_ret (v := .tuple #[.agg #[.int .i64 2, .string ⟨#[]⟩, .int .i64 N, .int .i64 0, .int .i64 0], .int .i64 RI, .int .i64 0]) (by simp [results, Tryz.results71, go_sem, hr_0, hr_1, hr_2, hr_3, hr_4] <;> first | done | rfl) rfl ⟨by rw [HO2.out], ?_⟩
   repeat (first | (refine Below.setCell ?_ (by dsimp only; omega) _) | refine Below.drew ?_)
   exact hB
set_option maxHeartbeats 4000000 in
theorem tokp_hex (l : List UInt8) (hl : l.length ≤ 100000) (h0 : 0 < l.length) (hc : at8 l 0 = 36) (w : World) :
  Calls Tryz.prog 71 #[.string (txB l)] w fun e w' => e = .returned (tokV (oneD l)) ∧ Below w.heap.size w w' := by
 have hlet : isLet (at8 l 0) = false := by rw [hc]; decide
 have hv : oneD l = oneNum 16 l 1 := by have := oneD_hex l 0 h0 hlet hc; rwa [List.drop_zero] at this
 rw [hv]
 have HL := hid (fun W => in_letters_c (at8 l 0) W)
 rw [hlet] at HL
 have HD := hid (fun W => in_digits_c (at8 l 0) W)
 rw [show isDig 10 (at8 l 0) = false from by rw [hc]; decide] at HD
 have e36 : (bI (at8 l 0) == 36) = true := by rw [hc]; rfl
 have HX := hid (fun W => in_hexes_c (at8 l 1) W)
 cases hx : isDig 16 (at8 l 1)
 ·have hO : tokV (oneNum 16 l 1) = tokE 11 := by
   have hR : runL (isDig 16) l 1 = 1 := by
    by_cases h1 : 1 < l.length
    ·exact runL_no _ l 1 h1 (by rw [← at8_get l 1 h1]; exact hx)
    ·exact runL_stop _ l 1 (by omega)
   unfold oneNum
   dsimp only
   rw [hR, if_pos (.inl rfl)]
   rfl
  rw [hx] at HX
  generalize tokV (oneNum 16 l 1) = O at *
  have HO2 := hid hO
  clear hv hc hlet hx hO
  go_enter Tryz.func71, Tryz.ntmps71
  go_wp2_with fail
  refine wp_scope_hid 2 fun C hC => ?_
  go_wp2_with fail
  refine (nextp_c l (w.heap.size + 1 + 1 + 1) w.heap.size 0 (by omega) 0 rfl _ (by go_simp) (by go_simp)).mono ?_
  rintro _ _ ⟨rfl, rfl⟩
  go_wp2_with fail
  refine (HL.out _).mono ?_
  rintro _ u0 ⟨rfl, hb⟩
  have hm : Mid w (txB l) 0 (.int .i64 0) (.string ⟨#[]⟩) (.int .i64 0) u0 := Mid.below (by constructor <;> first | (go_simp; done) | (simp; done) | (simp; omega) | go_grown) hb
  clear hb
  have HM0 := hid hm
  obtain ⟨hs_0, hr_0, hr_1, hr_2, hr_3, hr_4, fr_0, fr_1, fr_2, fr_3, fr_4, ht_0, ht_1, ht_2, ht_3, ht_4, ft_0, ft_1, ft_2, ft_3, ft_4, ha_0, fa_0, hn_0, hsz, hB⟩ := hm
  go_wp2_with fail
  refine (HD.out _).mono ?_
  rintro _ u1 ⟨rfl, hb⟩
  have hm := Mid.below HM0.out hb
  clear hb hs_0 hr_0 hr_1 hr_2 hr_3 hr_4 fr_0 fr_1 fr_2 fr_3 fr_4 ht_0 ht_1 ht_2 ht_3 ht_4 ft_0 ft_1 ft_2 ft_3 ft_4 ha_0 fa_0 hn_0 hsz hB
  have HM1 := hid hm
  obtain ⟨hs_0, hr_0, hr_1, hr_2, hr_3, hr_4, fr_0, fr_1, fr_2, fr_3, fr_4, ht_0, ht_1, ht_2, ht_3, ht_4, ft_0, ft_1, ft_2, ft_3, ft_4, ha_0, fa_0, hn_0, hsz, hB⟩ := hm
  go_wp2_with fail
  refine wp_goto_in hC rfl ?_
  go_wp2_with fail
  refine (nextp_c l (w.heap.size + 1 + 1 + 1) w.heap.size 1 (by omega) 1 rfl _ (by go_simp) (by go_simp)).mono ?_
  rintro _ _ ⟨rfl, rfl⟩
  go_wp2_with fail
  refine (HX.out _).mono ?_
  rintro _ u2 ⟨rfl, hb⟩
  have hm : Mid w (txB l) 1 (.int .i64 0) (.string ⟨#[]⟩) (.int .i64 0) u2 := Mid.below (by constructor <;> first | (go_simp; done) | (simp; done) | (simp; omega) | go_grown) hb
  clear hb hs_0 hr_0 hr_1 hr_2 hr_3 hr_4 fr_0 fr_1 fr_2 fr_3 fr_4 ht_0 ht_1 ht_2 ht_3 ht_4 ft_0 ft_1 ft_2 ft_3 ft_4 ha_0 fa_0 hn_0 hsz hB
  have HM2 := hid hm
  obtain ⟨hs_0, hr_0, hr_1, hr_2, hr_3, hr_4, fr_0, fr_1, fr_2, fr_3, fr_4, ht_0, ht_1, ht_2, ht_3, ht_4, ft_0, ft_1, ft_2, ft_3, ft_4, ha_0, fa_0, hn_0, hsz, hB⟩ := hm
  go_wp2_with fail
  go_wp2
  rw [Into.ret]
  refine bodyPost_ret (v := .tuple #[.agg #[.int .i64 0, .string ⟨#[]⟩, .int .i64 0, .int .i64 0, .int .i64 0], .int .i64 0, .int .i64 11]) (by simp [results, Tryz.results71, go_sem, hr_0, hr_1, hr_2, hr_3, hr_4] <;> first | done | rfl) rfl ⟨by rw [HO2.out]; rfl, ?_⟩
  repeat (first | (refine Below.setCell ?_ (by dsimp only; omega) _) | refine Below.drew ?_)
  exact hB
 ·have h1 : 1 < l.length := by
   refine Nat.lt_of_not_le fun h => ?_
   rw [at8_end l 1 h] at hx
   exact absurd hx (by decide)
  rw [hx] at HX
  obtain ⟨R, hR⟩ : ∃ R, runL (isDig 16) l 1 = R := ⟨_, rfl⟩
  obtain ⟨N, hN⟩ : ∃ N, numV 16 (l.drop 1) 0 = N := ⟨_, rfl⟩
  have hRl := runL_le (isDig 16) l 1 (by omega)
  have hRg := runL_ge (isDig 16) l (1 + 1)
  have hrd := run_digits 16 l 1 (by omega)
  rw [hR] at hRl hrd
  rw [hN] at hrd
  have hstep : isDig 16 (at8 l 1) = true → 1 < l.length → R ≠ 1 := fun hd hlt => by
   rw [← hR, runL_yes (isDig 16) l 1 hlt (by rw [← at8_get l 1 hlt]; exact hd)]
   omega
  have HG := hid (fun W => in_solid_c (at8 l R) W)
  have HPn := hid (parsen_c ((l.take R).drop 1) (by rw [List.length_drop, List.length_take]; omega) 16 (by omega) hrd.1)
  rw [hrd.2, show ((16 : Nat) : Int) = 16 from rfl] at HPn
  obtain ⟨RI, hRI⟩ : ∃ RI, ((R : Nat) : Int) = RI := ⟨_, rfl⟩
  have HRI := hid (And.intro (show ((runL (isDig 16) l 1 : Nat) : Int) = RI from by rw [hR]; exact hRI) hRI)
  have HR := hid hR
  have hw := num_v 16 l 1 R N hR (hstep hx h1) hN
  rw [hRI] at hw
  generalize hO : tokV (oneNum 16 l 1) = O at *
  obtain ⟨T, hT⟩ : ∃ T, txB ((l.take R).drop 1) = T := ⟨_, rfl⟩
  rw [hT] at HPn
  have HT := hid hT
  clear hv hc hlet hx hstep hrd hR hN hRg hRI hO hT h1
  rcases hw with ⟨g1, HO⟩ | ⟨g1, n1, HO⟩ | ⟨g1, n1, HO⟩
  ·rw [g1] at HG
   clear g1
   have HO2 := hid HO
   clear HO
   go_enter Tryz.func71, Tryz.ntmps71
   go_wp2_with fail
   refine wp_scope_hid 2 fun C hC => ?_
   go_wp2_with fail
   refine (nextp_c l (w.heap.size + 1 + 1 + 1) w.heap.size 0 (by omega) 0 rfl _ (by go_simp) (by go_simp)).mono ?_
   rintro _ _ ⟨rfl, rfl⟩
   go_wp2_with fail
   refine (HL.out _).mono ?_
   rintro _ u0 ⟨rfl, hb⟩
   have hm : Mid w (txB l) 0 (.int .i64 0) (.string ⟨#[]⟩) (.int .i64 0) u0 := Mid.below (by constructor <;> first | (go_simp; done) | (simp; done) | (simp; omega) | go_grown) hb
   clear hb
   have HM0 := hid hm
   obtain ⟨hs_0, hr_0, hr_1, hr_2, hr_3, hr_4, fr_0, fr_1, fr_2, fr_3, fr_4, ht_0, ht_1, ht_2, ht_3, ht_4, ft_0, ft_1, ft_2, ft_3, ft_4, ha_0, fa_0, hn_0, hsz, hB⟩ := hm
   go_wp2_with fail
   refine (HD.out _).mono ?_
   rintro _ u1 ⟨rfl, hb⟩
   have hm := Mid.below HM0.out hb
   clear hb hs_0 hr_0 hr_1 hr_2 hr_3 hr_4 fr_0 fr_1 fr_2 fr_3 fr_4 ht_0 ht_1 ht_2 ht_3 ht_4 ft_0 ft_1 ft_2 ft_3 ft_4 ha_0 fa_0 hn_0 hsz hB
   have HM1 := hid hm
   obtain ⟨hs_0, hr_0, hr_1, hr_2, hr_3, hr_4, fr_0, fr_1, fr_2, fr_3, fr_4, ht_0, ht_1, ht_2, ht_3, ht_4, ft_0, ft_1, ft_2, ft_3, ft_4, ha_0, fa_0, hn_0, hsz, hB⟩ := hm
   go_wp2_with fail
   refine wp_goto_in hC rfl ?_
   go_wp2_with fail
   refine (nextp_c l (w.heap.size + 1 + 1 + 1) w.heap.size 1 (by omega) 1 rfl _ (by go_simp) (by go_simp)).mono ?_
   rintro _ _ ⟨rfl, rfl⟩
   go_wp2_with fail
   refine (HX.out _).mono ?_
   rintro _ u2 ⟨rfl, hb⟩
   have hm : Mid w (txB l) 1 (.int .i64 0) (.string ⟨#[]⟩) (.int .i64 0) u2 := Mid.below (by constructor <;> first | (go_simp; done) | (simp; done) | (simp; omega) | go_grown) hb
   clear hb hs_0 hr_0 hr_1 hr_2 hr_3 hr_4 fr_0 fr_1 fr_2 fr_3 fr_4 ht_0 ht_1 ht_2 ht_3 ht_4 ft_0 ft_1 ft_2 ft_3 ft_4 ha_0 fa_0 hn_0 hsz hB
   have HM2 := hid hm
   obtain ⟨hs_0, hr_0, hr_1, hr_2, hr_3, hr_4, fr_0, fr_1, fr_2, fr_3, fr_4, ht_0, ht_1, ht_2, ht_3, ht_4, ft_0, ft_1, ft_2, ft_3, ft_4, ha_0, fa_0, hn_0, hsz, hB⟩ := hm
   go_wp2_with fail
   refine (takep_c l hl hexesL (isDig 16) (by decide) (by decide) in_hexes rfl (w.heap.size + 1 + 1 + 1) w.heap.size (w.heap.size + 1 + 1 + 1 + 1) 1 (by omega) (by omega) (by omega) 1 rfl _ (by go_simp) (by go_simp) (by go_simp) (by go_simp)).mono ?_
   rintro _ u3 ⟨rfl, hg, ha, fa⟩
   rw [HRI.out.1] at ha
   rw [HR.out, HT.out]
   have hm : Mid w (txB l) RI (.int .i64 0) (.string ⟨#[]⟩) (.int .i64 0) u3 := Mid.take HM2.out hg ha fa
   have HM3 := hid hm
   clear hg ha fa hs_0 hr_0 hr_1 hr_2 hr_3 hr_4 fr_0 fr_1 fr_2 fr_3 fr_4 ht_0 ht_1 ht_2 ht_3 ht_4 ft_0 ft_1 ft_2 ft_3 ft_4 ha_0 fa_0 hn_0 hsz hB
   obtain ⟨hs_0, hr_0, hr_1, hr_2, hr_3, hr_4, fr_0, fr_1, fr_2, fr_3, fr_4, ht_0, ht_1, ht_2, ht_3, ht_4, ft_0, ft_1, ft_2, ft_3, ft_4, ha_0, fa_0, hn_0, hsz, hB⟩ := hm
   go_wp2_with fail
   refine (HPn.out _).mono ?_
   rintro _ _ ⟨rfl, rfl⟩
   go_wp2_with fail
   apply wp_label
   go_wp2_with fail
   refine (nextp_c l (w.heap.size + 1 + 1 + 1) w.heap.size R hRl RI HRI.out.2.symm _ (by go_simp) (by go_simp)).mono ?_
   rintro _ _ ⟨rfl, rfl⟩
   go_wp2_with fail
   refine (HG.out _).mono ?_
   rintro _ u4 ⟨rfl, hb⟩
   have hm : Mid w (txB l) RI (.int .i64 2) (.string ⟨#[]⟩) (.int .i64 N) u4 := Mid.below (by constructor <;> first | (go_simp; done) | (simp; done) | (simp; omega) | go_grown) hb
   clear hb hs_0 hr_0 hr_1 hr_2 hr_3 hr_4 fr_0 fr_1 fr_2 fr_3 fr_4 ht_0 ht_1 ht_2 ht_3 ht_4 ft_0 ft_1 ft_2 ft_3 ft_4 ha_0 fa_0 hn_0 hsz hB
   have HM4 := hid hm
   obtain ⟨hs_0, hr_0, hr_1, hr_2, hr_3, hr_4, fr_0, fr_1, fr_2, fr_3, fr_4, ht_0, ht_1, ht_2, ht_3, ht_4, ft_0, ft_1, ft_2, ft_3, ft_4, ha_0, fa_0, hn_0, hsz, hB⟩ := hm
   go_wp2_with fail
   go_wp2
   rw [Into.ret]
   refine bodyPost_ret (v := .tuple #[.agg #[.int .i64 0, .string ⟨#[]⟩, .int .i64 0, .int .i64 0, .int .i64 0], .int .i64 0, .int .i64 11]) (by simp [results, Tryz.results71, go_sem, hr_0, hr_1, hr_2, hr_3, hr_4] <;> first | done | rfl) rfl ⟨by rw [HO2.out]; rfl, ?_⟩
   repeat (first | (refine Below.setCell ?_ (by dsimp only; omega) _) | refine Below.drew ?_)
   exact hB
  ·rw [g1] at HG
   clear g1
   have HO2 := hid HO
   clear HO
   go_enter Tryz.func71, Tryz.ntmps71
   go_wp2_with fail
   refine wp_scope_hid 2 fun C hC => ?_
   go_wp2_with fail
   refine (nextp_c l (w.heap.size + 1 + 1 + 1) w.heap.size 0 (by omega) 0 rfl _ (by go_simp) (by go_simp)).mono ?_
   rintro _ _ ⟨rfl, rfl⟩
   go_wp2_with fail
   refine (HL.out _).mono ?_
   rintro _ u0 ⟨rfl, hb⟩
   have hm : Mid w (txB l) 0 (.int .i64 0) (.string ⟨#[]⟩) (.int .i64 0) u0 := Mid.below (by constructor <;> first | (go_simp; done) | (simp; done) | (simp; omega) | go_grown) hb
   clear hb
   have HM0 := hid hm
   obtain ⟨hs_0, hr_0, hr_1, hr_2, hr_3, hr_4, fr_0, fr_1, fr_2, fr_3, fr_4, ht_0, ht_1, ht_2, ht_3, ht_4, ft_0, ft_1, ft_2, ft_3, ft_4, ha_0, fa_0, hn_0, hsz, hB⟩ := hm
   go_wp2_with fail
   refine (HD.out _).mono ?_
   rintro _ u1 ⟨rfl, hb⟩
   have hm := Mid.below HM0.out hb
   clear hb hs_0 hr_0 hr_1 hr_2 hr_3 hr_4 fr_0 fr_1 fr_2 fr_3 fr_4 ht_0 ht_1 ht_2 ht_3 ht_4 ft_0 ft_1 ft_2 ft_3 ft_4 ha_0 fa_0 hn_0 hsz hB
   have HM1 := hid hm
   obtain ⟨hs_0, hr_0, hr_1, hr_2, hr_3, hr_4, fr_0, fr_1, fr_2, fr_3, fr_4, ht_0, ht_1, ht_2, ht_3, ht_4, ft_0, ft_1, ft_2, ft_3, ft_4, ha_0, fa_0, hn_0, hsz, hB⟩ := hm
   go_wp2_with fail
   refine wp_goto_in hC rfl ?_
   go_wp2_with fail
   refine (nextp_c l (w.heap.size + 1 + 1 + 1) w.heap.size 1 (by omega) 1 rfl _ (by go_simp) (by go_simp)).mono ?_
   rintro _ _ ⟨rfl, rfl⟩
   go_wp2_with fail
   refine (HX.out _).mono ?_
   rintro _ u2 ⟨rfl, hb⟩
   have hm : Mid w (txB l) 1 (.int .i64 0) (.string ⟨#[]⟩) (.int .i64 0) u2 := Mid.below (by constructor <;> first | (go_simp; done) | (simp; done) | (simp; omega) | go_grown) hb
   clear hb hs_0 hr_0 hr_1 hr_2 hr_3 hr_4 fr_0 fr_1 fr_2 fr_3 fr_4 ht_0 ht_1 ht_2 ht_3 ht_4 ft_0 ft_1 ft_2 ft_3 ft_4 ha_0 fa_0 hn_0 hsz hB
   have HM2 := hid hm
   obtain ⟨hs_0, hr_0, hr_1, hr_2, hr_3, hr_4, fr_0, fr_1, fr_2, fr_3, fr_4, ht_0, ht_1, ht_2, ht_3, ht_4, ft_0, ft_1, ft_2, ft_3, ft_4, ha_0, fa_0, hn_0, hsz, hB⟩ := hm
   go_wp2_with fail
   refine (takep_c l hl hexesL (isDig 16) (by decide) (by decide) in_hexes rfl (w.heap.size + 1 + 1 + 1) w.heap.size (w.heap.size + 1 + 1 + 1 + 1) 1 (by omega) (by omega) (by omega) 1 rfl _ (by go_simp) (by go_simp) (by go_simp) (by go_simp)).mono ?_
   rintro _ u3 ⟨rfl, hg, ha, fa⟩
   rw [HRI.out.1] at ha
   rw [HR.out, HT.out]
   have hm : Mid w (txB l) RI (.int .i64 0) (.string ⟨#[]⟩) (.int .i64 0) u3 := Mid.take HM2.out hg ha fa
   have HM3 := hid hm
   clear hg ha fa hs_0 hr_0 hr_1 hr_2 hr_3 hr_4 fr_0 fr_1 fr_2 fr_3 fr_4 ht_0 ht_1 ht_2 ht_3 ht_4 ft_0 ft_1 ft_2 ft_3 ft_4 ha_0 fa_0 hn_0 hsz hB
   obtain ⟨hs_0, hr_0, hr_1, hr_2, hr_3, hr_4, fr_0, fr_1, fr_2, fr_3, fr_4, ht_0, ht_1, ht_2, ht_3, ht_4, ft_0, ft_1, ft_2, ft_3, ft_4, ha_0, fa_0, hn_0, hsz, hB⟩ := hm
   go_wp2_with fail
   refine (HPn.out _).mono ?_
   rintro _ _ ⟨rfl, rfl⟩
   go_wp2_with fail
   apply wp_label
   go_wp2_with fail
   refine (nextp_c l (w.heap.size + 1 + 1 + 1) w.heap.size R hRl RI HRI.out.2.symm _ (by go_simp) (by go_simp)).mono ?_
   rintro _ _ ⟨rfl, rfl⟩
   go_wp2_with fail
   refine (HG.out _).mono ?_
   rintro _ u4 ⟨rfl, hb⟩
   have hm : Mid w (txB l) RI (.int .i64 2) (.string ⟨#[]⟩) (.int .i64 N) u4 := Mid.below (by constructor <;> first | (go_simp; done) | (simp; done) | (simp; omega) | go_grown) hb
   clear hb hs_0 hr_0 hr_1 hr_2 hr_3 hr_4 fr_0 fr_1 fr_2 fr_3 fr_4 ht_0 ht_1 ht_2 ht_3 ht_4 ft_0 ft_1 ft_2 ft_3 ft_4 ha_0 fa_0 hn_0 hsz hB
   have HM4 := hid hm
   obtain ⟨hs_0, hr_0, hr_1, hr_2, hr_3, hr_4, fr_0, fr_1, fr_2, fr_3, fr_4, ht_0, ht_1, ht_2, ht_3, ht_4, ft_0, ft_1, ft_2, ft_3, ft_4, ha_0, fa_0, hn_0, hsz, hB⟩ := hm
   go_wp2_with fail
   go_wp2
   rw [Into.ret]
   refine bodyPost_ret (v := .tuple #[.agg #[.int .i64 0, .string ⟨#[]⟩, .int .i64 0, .int .i64 0, .int .i64 0], .int .i64 0, .int .i64 10]) (by simp [results, Tryz.results71, go_sem, hr_0, hr_1, hr_2, hr_3, hr_4] <;> first | done | rfl) rfl ⟨by rw [HO2.out]; rfl, ?_⟩
   repeat (first | (refine Below.setCell ?_ (by dsimp only; omega) _) | refine Below.drew ?_)
   exact hB
  ·rw [g1] at HG
   clear g1
   have HO2 := hid HO
   clear HO
   go_enter Tryz.func71, Tryz.ntmps71
   go_wp2_with fail
   refine wp_scope_hid 2 fun C hC => ?_
   go_wp2_with fail
   refine (nextp_c l (w.heap.size + 1 + 1 + 1) w.heap.size 0 (by omega) 0 rfl _ (by go_simp) (by go_simp)).mono ?_
   rintro _ _ ⟨rfl, rfl⟩
   go_wp2_with fail
   refine (HL.out _).mono ?_
   rintro _ u0 ⟨rfl, hb⟩
   have hm : Mid w (txB l) 0 (.int .i64 0) (.string ⟨#[]⟩) (.int .i64 0) u0 := Mid.below (by constructor <;> first | (go_simp; done) | (simp; done) | (simp; omega) | go_grown) hb
   clear hb
   have HM0 := hid hm
   obtain ⟨hs_0, hr_0, hr_1, hr_2, hr_3, hr_4, fr_0, fr_1, fr_2, fr_3, fr_4, ht_0, ht_1, ht_2, ht_3, ht_4, ft_0, ft_1, ft_2, ft_3, ft_4, ha_0, fa_0, hn_0, hsz, hB⟩ := hm
   go_wp2_with fail
   refine (HD.out _).mono ?_
   rintro _ u1 ⟨rfl, hb⟩
   have hm := Mid.below HM0.out hb
   clear hb hs_0 hr_0 hr_1 hr_2 hr_3 hr_4 fr_0 fr_1 fr_2 fr_3 fr_4 ht_0 ht_1 ht_2 ht_3 ht_4 ft_0 ft_1 ft_2 ft_3 ft_4 ha_0 fa_0 hn_0 hsz hB
   have HM1 := hid hm
   obtain ⟨hs_0, hr_0, hr_1, hr_2, hr_3, hr_4, fr_0, fr_1, fr_2, fr_3, fr_4, ht_0, ht_1, ht_2, ht_3, ht_4, ft_0, ft_1, ft_2, ft_3, ft_4, ha_0, fa_0, hn_0, hsz, hB⟩ := hm
   go_wp2_with fail
   refine wp_goto_in hC rfl ?_
   go_wp2_with fail
   refine (nextp_c l (w.heap.size + 1 + 1 + 1) w.heap.size 1 (by omega) 1 rfl _ (by go_simp) (by go_simp)).mono ?_
   rintro _ _ ⟨rfl, rfl⟩
   go_wp2_with fail
   refine (HX.out _).mono ?_
   rintro _ u2 ⟨rfl, hb⟩
   have hm : Mid w (txB l) 1 (.int .i64 0) (.string ⟨#[]⟩) (.int .i64 0) u2 := Mid.below (by constructor <;> first | (go_simp; done) | (simp; done) | (simp; omega) | go_grown) hb
   clear hb hs_0 hr_0 hr_1 hr_2 hr_3 hr_4 fr_0 fr_1 fr_2 fr_3 fr_4 ht_0 ht_1 ht_2 ht_3 ht_4 ft_0 ft_1 ft_2 ft_3 ft_4 ha_0 fa_0 hn_0 hsz hB
   have HM2 := hid hm
   obtain ⟨hs_0, hr_0, hr_1, hr_2, hr_3, hr_4, fr_0, fr_1, fr_2, fr_3, fr_4, ht_0, ht_1, ht_2, ht_3, ht_4, ft_0, ft_1, ft_2, ft_3, ft_4, ha_0, fa_0, hn_0, hsz, hB⟩ := hm
   go_wp2_with fail
   refine (takep_c l hl hexesL (isDig 16) (by decide) (by decide) in_hexes rfl (w.heap.size + 1 + 1 + 1) w.heap.size (w.heap.size + 1 + 1 + 1 + 1) 1 (by omega) (by omega) (by omega) 1 rfl _ (by go_simp) (by go_simp) (by go_simp) (by go_simp)).mono ?_
   rintro _ u3 ⟨rfl, hg, ha, fa⟩
   rw [HRI.out.1] at ha
   rw [HR.out, HT.out]
   have hm : Mid w (txB l) RI (.int .i64 0) (.string ⟨#[]⟩) (.int .i64 0) u3 := Mid.take HM2.out hg ha fa
   have HM3 := hid hm
   clear hg ha fa hs_0 hr_0 hr_1 hr_2 hr_3 hr_4 fr_0 fr_1 fr_2 fr_3 fr_4 ht_0 ht_1 ht_2 ht_3 ht_4 ft_0 ft_1 ft_2 ft_3 ft_4 ha_0 fa_0 hn_0 hsz hB
   obtain ⟨hs_0, hr_0, hr_1, hr_2, hr_3, hr_4, fr_0, fr_1, fr_2, fr_3, fr_4, ht_0, ht_1, ht_2, ht_3, ht_4, ft_0, ft_1, ft_2, ft_3, ft_4, ha_0, fa_0, hn_0, hsz, hB⟩ := hm
   go_wp2_with fail
   refine (HPn.out _).mono ?_
   rintro _ _ ⟨rfl, rfl⟩
   go_wp2_with fail
   apply wp_label
   go_wp2_with fail
   refine (nextp_c l (w.heap.size + 1 + 1 + 1) w.heap.size R hRl RI HRI.out.2.symm _ (by go_simp) (by go_simp)).mono ?_
   rintro _ _ ⟨rfl, rfl⟩
   go_wp2_with fail
   refine (HG.out _).mono ?_
   rintro _ u4 ⟨rfl, hb⟩
   have hm : Mid w (txB l) RI (.int .i64 2) (.string ⟨#[]⟩) (.int .i64 N) u4 := Mid.below (by constructor <;> first | (go_simp; done) | (simp; done) | (simp; omega) | go_grown) hb
   clear hb hs_0 hr_0 hr_1 hr_2 hr_3 hr_4 fr_0 fr_1 fr_2 fr_3 fr_4 ht_0 ht_1 ht_2 ht_3 ht_4 ft_0 ft_1 ft_2 ft_3 ft_4 ha_0 fa_0 hn_0 hsz hB
   have HM4 := hid hm
   obtain ⟨hs_0, hr_0, hr_1, hr_2, hr_3, hr_4, fr_0, fr_1, fr_2, fr_3, fr_4, ht_0, ht_1, ht_2, ht_3, ht_4, ft_0, ft_1, ft_2, ft_3, ft_4, ha_0, fa_0, hn_0, hsz, hB⟩ := hm
   go_wp2_with fail
   go_region
   all_goals
    go_wp2
    rw [Into.ret]
    refine bodyPost_ret (v := .tuple #[.agg #[.int .i64 2, .string ⟨#[]⟩, .int .i64 N, .int .i64 0, .int .i64 0], .int .i64 RI, .int .i64 0]) (by simp [results, Tryz.results71, go_sem, hr_0, hr_1, hr_2, hr_3, hr_4] <;> first | done | rfl) rfl ⟨by rw [HO2.out], ?_⟩
    repeat (first | (refine Below.setCell ?_ (by dsimp only; omega) _) | refine Below.drew ?_)
    exact hB
theorem tokp_c (l : List UInt8) (hl : l.length ≤ 100000) (h0 : 0 < l.length) (w : World) :
  Calls Tryz.prog 71 #[.string (txB l)] w fun e w' => e = .returned (tokV (oneD l)) ∧ Below w.heap.size w w' := by
 cases hlet : isLet (at8 l 0)
 ·by_cases h46 : at8 l 0 = 46
  ·exact tokp_dot l hl h0 h46 w
  ·by_cases h36 : at8 l 0 = 36
   ·exact tokp_hex l hl h0 h36 w
   ·cases hd : isDig 10 (at8 l 0)
    ·exact tokp_no l hl h0 hlet hd h46 h36 w
    ·exact tokp_dec l hl h0 hlet hd h46 h36 w
 ·exact tokp_word l hl h0 hlet w
end Go.Proofs.YtjcmblbnbpikfaaGreatDoor
