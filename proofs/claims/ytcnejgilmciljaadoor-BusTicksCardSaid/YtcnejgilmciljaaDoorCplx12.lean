/-
  The program's New; what it makes.
  The law's plain: whether a number is two whole ones, and no 0 of it below 0.
  Whole numbers as doubles, a zero of either sign: sums and products of complex ones.
-/
import Derived.Test.YtcnejgilmciljaaDoorLast11
import Derived.Test.YtcnejgilmciljaaDoorWritep11
import Derived.Test.YtcnejgilmciljaaDoorDbt13
set_option linter.unusedSimpArgs false
set_option linter.unusedVariables false
namespace Go.Proofs.YtcnejgilmciljaaDoor
open Go.RowKit Go.PlainAid

/-- A new block of five slices, over rows of their own. -/
theorem po_new {S : Po} {x y a b c : Value} {w W : World} (hB : Below w.heap.size w W) (hx : W.ownsRow w.heap.size 5 1 x S.pub.length (S.pub.flatMap bE)) (hy : W.ownsRow w.heap.size 23 2 y (secT S.sec).length ((secT S.sec).flatMap kE))
    (ha : W.ownsRow w.heap.size 5 1 a S.out.length (S.out.flatMap bE)) (hb : W.ownsRow w.heap.size 23 2 b S.kept.length (S.kept.flatMap kE)) (hc : W.ownsRow w.heap.size 107 2 c S.log.length (S.log.flatMap eE))
    (s1 : ∀ k, x.ownBlock = some k → a.ownBlock ≠ some k ∧ b.ownBlock ≠ some k ∧ c.ownBlock ≠ some k) (s2 : ∀ k, y.ownBlock = some k → a.ownBlock ≠ some k ∧ b.ownBlock ≠ some k ∧ c.ownBlock ≠ some k)
    (s3 : ∀ k, a.ownBlock = some k → b.ownBlock ≠ some k ∧ c.ownBlock ≠ some k) (s4 : ∀ k, b.ownBlock = some k → c.ownBlock ≠ some k) (T : TypeId) :
    ∃ F G, PO W.heap.size S F G (W.alloc (.cells #[x, y, a, b, c] T)) ∧ (∀ k, G k → w.heap.size ≤ k) := by
  have hz := hB.size
  have hw : Below W.heap.size W (W.alloc (.cells #[x, y, a, b, c] T)) := (Below.refl _ _).alloc (Nat.le_refl _) _
  have lx := hx.lt
  have ly := hy.lt
  have la := ha.lt
  have lb := hb.lt
  have lc := hc.lt
  have hcell : ∀ i u, (#[x, y, a, b, c] : Array Value)[i]? = some u → (W.alloc (.cells #[x, y, a, b, c] T)).cell? ⟨W.heap.size, i, none⟩ = some u := fun i u hu => by
    rw [cell_of_row _ _ _ _ _ _ (heap_alloc_new W (.cells #[x, y, a, b, c] T))]; exact hu
  have hfr : ∀ i, (W.alloc (.cells #[x, y, a, b, c] T)).frozen? ⟨W.heap.size, i, none⟩ = false := fun i => frozen_of_row _ _ _ _ _ (heap_alloc_new W (.cells #[x, y, a, b, c] T))
  have hfoot : ∀ k, foot W.heap.size (rP S a b c) k → k = W.heap.size ∨ a.ownBlock = some k ∨ b.ownBlock = some k ∨ c.ownBlock = some k := fun k hk => by
    rcases hk with rfl | ⟨r, hr, hk⟩
    · exact .inl rfl
    · simp only [rP, List.mem_cons, List.mem_nil_iff, or_false] at hr
      rcases hr with rfl | rfl | rfl
      · exact .inr (.inl hk)
      · exact .inr (.inr (.inl hk))
      · exact .inr (.inr (.inr hk))
  have hold : Hold W.heap.size (rP S a b c) (W.alloc (.cells #[x, y, a, b, c] T)) := by
    refine ⟨by simp, fun i r hr => ?_, fun i r hr => ?_, fun i j r s hr hs hij => ?_⟩
    · match i, hr with
      | 0, hr => cases hr; exact ⟨hcell 2 _ rfl, hfr 2⟩
      | 1, hr => cases hr; exact ⟨hcell 3 _ rfl, hfr 3⟩
      | 2, hr => cases hr; exact ⟨hcell 4 _ rfl, hfr 4⟩
      | n + 3, hr => simp [rP] at hr
    · match i, hr with
      | 0, hr => cases hr; exact ⟨own_low (own_below ha hw) (Nat.zero_le _), fun e => by have := la _ e; omega⟩
      | 1, hr => cases hr; exact ⟨own_low (own_below hb hw) (Nat.zero_le _), fun e => by have := lb _ e; omega⟩
      | 2, hr => cases hr; exact ⟨own_low (own_below hc hw) (Nat.zero_le _), fun e => by have := lc _ e; omega⟩
      | n + 3, hr => simp [rP] at hr
    · match i, j, hr, hs with
      | 0, 0, _, _ => exact absurd rfl hij
      | 1, 1, _, _ => exact absurd rfl hij
      | 2, 2, _, _ => exact absurd rfl hij
      | 0, 1, hr, hs => cases hr; cases hs; exact ⟨by dsimp only; omega, fun k hk => (s3 k hk).1⟩
      | 0, 2, hr, hs => cases hr; cases hs; exact ⟨by dsimp only; omega, fun k hk => (s3 k hk).2⟩
      | 1, 0, hr, hs => cases hr; cases hs; exact ⟨by dsimp only; omega, fun k hk e => (s3 k e).1 hk⟩
      | 1, 2, hr, hs => cases hr; cases hs; exact ⟨by dsimp only; omega, fun k hk => s4 k hk⟩
      | 2, 0, hr, hs => cases hr; cases hs; exact ⟨by dsimp only; omega, fun k hk e => (s3 k e).2 hk⟩
      | 2, 1, hr, hs => cases hr; cases hs; exact ⟨by dsimp only; omega, fun k hk e => s4 k e hk⟩
      | n + 3, _, hr, _ => simp [rP] at hr
      | 0, n + 3, _, hs => simp [rP] at hs
      | 1, n + 3, _, hs => simp [rP] at hs
      | 2, n + 3, _, hs => simp [rP] at hs
  refine ⟨_, _, ⟨x, y, a, b, c, ⟨hold, ⟨hcell 0 _ rfl, hfr 0, (HoldsW.own bE_len hx).below hw, fun _ k hk hf => ?_⟩, ⟨hcell 1 _ rfl, hfr 1, (HoldsW.own kE_len hy).below hw, fun _ k hk hf => ?_⟩⟩, rfl, rfl⟩, fun k hk => ?_⟩
  · rcases hfoot k hf with h | h | h | h
    · have := lx k hk; omega
    · exact (s1 k hk).1 h
    · exact (s1 k hk).2.1 h
    · exact (s1 k hk).2.2 h
  · rcases hfoot k hf with h | h | h | h
    · have := ly k hk; omega
    · exact (s2 k hk).1 h
    · exact (s2 k hk).2.1 h
    · exact (s2 k hk).2.2 h
  · rcases hk with hk | ⟨_, hk⟩ | ⟨_, hk⟩
    · rcases hfoot k hk with h | h | h | h
      · omega
      · exact (la k h).1
      · exact (lb k h).1
      · exact (lc k h).1
    · exact (lx k hk).1
    · exact (ly k hk).1
/-- What New and Clone answer: ports in memory of their own. -/
def NewEndP (S : Po) (pack : Value → Value) (w : World) : Ending → World → Prop := fun e w' => ∃ pb F G, e = .returned (pack (.pointer (some ⟨pb, 0, none⟩))) ∧ PO pb S F G w' ∧ (∀ k, G k → w.heap.size ≤ k) ∧ w.heap.size ≤ pb ∧ Below w.heap.size w w'
def okV (v : Value) : Value := .tuple #[v, .int .i64 0]
set_option maxRecDepth 100000 in
theorem pnew_long (p s : Nat) (a b : Option Addr) (ca cb : Nat) (h : 65536 < p ∨ 65536 < s) (w : World) :
    Calls Tryd.prog 5 #[.slice a p ca, .slice b s cb] w fun e w' => e = .returned (.tuple #[.pointer none, .int .i64 12]) ∧ Below w.heap.size w w' := by
  by_cases h1 : 65536 < p
  · have d1 : (65536 : Int) < (p : Int) := by omega
    go_enter Tryd.func5, Tryd.ntmps5
    go_wp2
    go_ret2
    exact ⟨rfl, by go_grown⟩
  · have d1 : ¬ (65536 : Int) < (p : Int) := by omega
    have d2 : (65536 : Int) < (s : Int) := by omega
    go_enter Tryd.func5, Tryd.ntmps5
    go_wp2
    go_ret2
    exact ⟨rfl, by go_grown⟩
set_option maxRecDepth 100000 in
set_option maxHeartbeats 1000000 in
theorem pnew_c (lp ls : List Int) (h1 : lp.length ≤ 65536) (h2 : ls.length ≤ 65536) (v1 v2 : Value) (w : World) (hv1 : HoldsW bE 1 w v1 lp) (hv2 : HoldsW bE 1 w v2 ls) :
    Calls Tryd.prog 5 #[v1, v2] w (NewEndP ⟨lp, ls, [], [], [], []⟩ okV w) := by
  obtain ⟨p1, c1, rfl⟩ := hv1.form
  obtain ⟨p2, c2, rfl⟩ := hv2.form
  have d1 : ¬ (65536 : Int) < (lp.length : Int) := by omega
  have d2 : ¬ (65536 : Int) < (ls.length : Int) := by omega
  have HC := Lib.hid (clone_b lp (by omega) _ w hv1)
  have HS := Lib.hid (fun W (hW : Below w.heap.size w W) => secrets_c ls h2 _ W (hv2.below hW))
  generalize hlp : lp.length = n1 at *
  generalize hls : ls.length = n2 at *
  have HLP := Lib.hid (And.intro hlp hls)
  clear hv1 hv2 hlp hls h1 h2
  go_enter Tryd.func5, Tryd.ntmps5
  go_wp2_with fail
  refine (HC.out).mono ?_
  rintro _ u ⟨vx, rfl, hx, hb⟩
  have hB := Lib.hid hb
  have HX := Lib.hid hx
  have hzu := hb.size
  obtain ⟨px, cx, rfl⟩ := own_form hx
  clear hx hb
  go_wp2_with fail
  refine (HS.out _ hB.out).mono ?_
  rintro _ u2 ⟨vy, rfl, hy, hb⟩
  have HB2 := Lib.hid (kb hB.out hb)
  have hzu2 := hb.size
  have HY := Lib.hid hy
  have HX2 := Lib.hid (own_below HX.out hb)
  obtain ⟨py, cy, rfl⟩ := own_form hy
  clear hy hb
  go_wp2
  go_ret2
  have hn := fun (T : TypeId) (k : Nat) => World.ownsRow_nil u2 w.heap.size T k
  have s0 : ∀ (v : Value) (k : Nat), v.ownBlock = some k → (Value.slice none 0 0).ownBlock ≠ some k ∧ (Value.slice none 0 0).ownBlock ≠ some k ∧ (Value.slice none 0 0).ownBlock ≠ some k := fun v k _ => ⟨by simp [Value.ownBlock], by simp [Value.ownBlock], by simp [Value.ownBlock]⟩
  obtain ⟨F, G, hP, hG⟩ := po_new (S := ⟨lp, ls, [], [], [], []⟩) HB2.out (by dsimp only; rw [HLP.out.1]; exact HX2.out) (own_low HY.out hzu) (hn _ _) (hn _ _) (hn _ _) (s0 _) (s0 _) (fun k h => by simp [Value.ownBlock] at h) (fun k h => by simp [Value.ownBlock] at h) 68
  exact ⟨_, F, G, rfl, hP, hG, HB2.out.size, HB2.out.alloc HB2.out.size _⟩
end Go.Proofs.YtcnejgilmciljaaDoor
set_option linter.unusedSimpArgs false
set_option linter.unusedVariables false
namespace Go.Proofs.YtcnejgilmciljaaDoor
open Go.RowKit Go.PlainAid

theorem conv_zF (n : Int) (W : World) : (convert 3 141 (.int .i64 n)).run Tryd.prog W = .ok (.float .f64 (zF n)) W := by
  rw [← zF_of]
  exact run_convert_int_float W 3 141 .i64 .f64 n (by kernel_rfl) (by kernel_rfl)
theorem quo_zero (W : World) : (binOp .quo 141 (.float .f64 4607182418800017408) (.float .f64 (zF 0))).run Tryd.prog W = .ok (.float .f64 9218868437227405312) W :=
  run_float_arith W .quo _ .f64 _ _ _ (by decide +kernel)
theorem inf_gt : (FloatKind.f64.format.order 9218868437227405312 0 == some .gt) = true := by decide +kernel
end Go.Proofs.YtcnejgilmciljaaDoor
set_option linter.unusedSimpArgs false
set_option linter.unusedVariables false
namespace Go.Proofs.YtcnejgilmciljaaDoor
open Go.RowKit Go.PlainAid

/-- It stands for n; where n is 0 it may be a 0 below 0. -/
def ZW (n : Int) (P : Nat) : Prop := ∃ s, P = fz s n 0 ∧ Fine s n 0
theorem zw_zF {n : Int} (h : n.natAbs < 2 ^ 53) : ZW n (zF n) := ⟨_, rfl, zF_fine h⟩
theorem ZW.small {n : Int} {P : Nat} (h : ZW n P) : n.natAbs < 2 ^ 53 := by obtain ⟨s, _, h⟩ := h; exact h.n
theorem ZW.add {m n : Int} {P Q : Nat} (h1 : ZW m P) (h2 : ZW n Q) (hb : (m + n).natAbs < 2 ^ 53) : ∃ R, floatBits .add .f64 P Q = some R ∧ ZW (m + n) R := by
  obtain ⟨s, rfl, f1⟩ := h1
  obtain ⟨t, rfl, f2⟩ := h2
  exact ⟨_, fz_add f1 f2 hb, _, rfl, ⟨fun h => by rw [if_neg h], hb, by omega⟩⟩
theorem ZW.sub {m n : Int} {P Q : Nat} (h1 : ZW m P) (h2 : ZW n Q) (hb : (m - n).natAbs < 2 ^ 53) : ∃ R, floatBits .sub .f64 P Q = some R ∧ ZW (m - n) R := by
  obtain ⟨s, rfl, f1⟩ := h1
  obtain ⟨t, rfl, f2⟩ := h2
  exact ⟨_, fz_sub f1 f2 hb, _, rfl, ⟨fun h => by rw [if_neg h], hb, by omega⟩⟩
theorem sign_mul {m n : Int} {s t : Bool} (h1 : m ≠ 0 → s = decide (m < 0)) (h2 : n ≠ 0 → t = decide (n < 0)) (h : m * n ≠ 0) : (s ^^ t) = decide (m * n < 0) := by
  have hm : m ≠ 0 := fun e => h (by rw [e, Int.zero_mul])
  have hn : n ≠ 0 := fun e => h (by rw [e, Int.mul_zero])
  rw [h1 hm, h2 hn]
  rcases Int.lt_or_gt_of_ne hm with a | a <;> rcases Int.lt_or_gt_of_ne hn with b | b
  · have := Int.mul_pos_of_neg_of_neg a b
    rw [decide_eq_true a, decide_eq_true b, decide_eq_false (by omega)]; rfl
  · have := Int.mul_neg_of_neg_of_pos a b
    rw [decide_eq_true a, decide_eq_false (by omega), decide_eq_true this]; rfl
  · have := Int.mul_neg_of_pos_of_neg a b
    rw [decide_eq_false (by omega), decide_eq_true b, decide_eq_true this]; rfl
  · have := Int.mul_pos a b
    rw [decide_eq_false (by omega), decide_eq_false (by omega), decide_eq_false (by omega)]; rfl
theorem ZW.mul {m n : Int} {P Q : Nat} (h1 : ZW m P) (h2 : ZW n Q) (hb : (m * n).natAbs < 2 ^ 53) : ∃ R, floatBits .mul .f64 P Q = some R ∧ ZW (m * n) R := by
  obtain ⟨s, rfl, f1⟩ := h1
  obtain ⟨t, rfl, f2⟩ := h2
  exact ⟨_, fz_mul f1 f2 hb (by omega), _, rfl, ⟨fun h => sign_mul f1.s f2.s h, hb, by omega⟩⟩
theorem store_cplx (P : Program) (k : FloatKind) (x y : Nat) (a : Addr) (m : Mode) (W : World) : (store a (.complex k x y) m).run P W = stored P W a (.complex k x y) m := run_store P W a _ m rfl
theorem store_flt (P : Program) (k : FloatKind) (x : Nat) (a : Addr) (m : Mode) (W : World) : (store a (.float k x) m).run P W = stored P W a (.float k x) m := run_store P W a _ m rfl
/-- A sum of complex ones. -/
theorem zw_csum {a b c d : Int} {A B C D : Nat} (ha : ZW a A) (hb : ZW b B) (hc : ZW c C) (hd : ZW d D) (h1 : (a + c).natAbs < 2 ^ 53) (h2 : (b + d).natAbs < 2 ^ 53) :
    ∃ R I, cSumBits .add .f64 A B C D = some (R, I) ∧ ZW (a + c) R ∧ ZW (b + d) I := by
  obtain ⟨R, e1, r1⟩ := ha.add hc h1
  obtain ⟨I, e2, r2⟩ := hb.add hd h2
  exact ⟨R, I, by unfold cSumBits; rw [e1, e2]; rfl, r1, r2⟩
/-- A product of complex ones. -/
theorem zw_cmul {a b c d : Int} {A B C D : Nat} (ha : ZW a A) (hb : ZW b B) (hc : ZW c C) (hd : ZW d D) (h1 : (a * c).natAbs < 2 ^ 53) (h2 : (b * d).natAbs < 2 ^ 53) (h3 : (a * d).natAbs < 2 ^ 53) (h4 : (b * c).natAbs < 2 ^ 53) (h5 : (a * c - b * d).natAbs < 2 ^ 53) (h6 : (a * d + b * c).natAbs < 2 ^ 53) :
    ∃ R I, cMulBits A B C D = some (R, I) ∧ ZW (a * c - b * d) R ∧ ZW (a * d + b * c) I := by
  obtain ⟨p1, e1, r1⟩ := ha.mul hc h1
  obtain ⟨p2, e2, r2⟩ := hb.mul hd h2
  obtain ⟨p3, e3, r3⟩ := ha.mul hd h3
  obtain ⟨p4, e4, r4⟩ := hb.mul hc h4
  obtain ⟨R, e5, r5⟩ := r1.sub r2 h5
  obtain ⟨I, e6, r6⟩ := r3.add r4 h6
  refine ⟨R, I, ?_, r5, r6⟩
  unfold cMulBits
  rw [e1]
  simp only [Option.bind_some]
  rw [e2]
  simp only [Option.bind_some]
  rw [e5]
  simp only [Option.bind_some]
  rw [e3]
  simp only [Option.bind_some]
  rw [e4]
  simp only [Option.bind_some]
  rw [e6]
  rfl
theorem ZW.order {m n : Int} {P Q : Nat} (h1 : ZW m P) (h2 : ZW n Q) : FloatKind.f64.format.order P Q = some (compare m n) := by
  obtain ⟨s, rfl, f1⟩ := h1
  obtain ⟨t, rfl, f2⟩ := h2
  exact fz_order f1 f2
theorem ZW.eq {m n : Int} {P Q : Nat} (h1 : ZW m P) (h2 : ZW n Q) : (FloatKind.f64.format.order P Q == some .eq) = decide (m = n) := by
  rw [h1.order h2, Int.compare_eq_ite_lt]
  by_cases h : m = n
  · subst h; simp
  · rw [decide_eq_false h]
    rcases Int.lt_or_gt_of_ne h with h3 | h3
    · rw [if_pos h3]; rfl
    · rw [if_neg (by omega), if_pos h3]; rfl
theorem ZW.ne {m n : Int} {P Q : Nat} (h1 : ZW m P) (h2 : ZW n Q) : (FloatKind.f64.format.order P Q != some .eq) = decide (m ≠ n) := by
  have := h1.eq h2
  unfold bne
  rw [this]
  by_cases h : m = n <;> simp [h]
theorem ZW.geq {m n : Int} {P Q : Nat} (h1 : ZW m P) (h2 : ZW n Q) : (FloatKind.f64.format.order P Q == some .gt || FloatKind.f64.format.order P Q == some .eq) = decide (n ≤ m) := by
  rw [h1.order h2, Int.compare_eq_ite_lt]
  by_cases a : m < n
  · rw [if_pos a, decide_eq_false (by omega)]; rfl
  · rw [if_neg a, decide_eq_true (by omega)]
    by_cases b : n < m
    · rw [if_pos b]; rfl
    · rw [if_neg b]; rfl
theorem ZW.leq {m n : Int} {P Q : Nat} (h1 : ZW m P) (h2 : ZW n Q) : (FloatKind.f64.format.order P Q == some .lt || FloatKind.f64.format.order P Q == some .eq) = decide (m ≤ n) := by
  rw [h1.order h2, Int.compare_eq_ite_lt]
  by_cases a : m < n
  · rw [if_pos a, decide_eq_true (by omega)]; rfl
  · rw [if_neg a]
    by_cases b : n < m
    · rw [if_pos b, decide_eq_false (by omega)]; rfl
    · rw [if_neg b, decide_eq_true (by omega)]; rfl
theorem ZW.lss {m n : Int} {P Q : Nat} (h1 : ZW m P) (h2 : ZW n Q) : (FloatKind.f64.format.order P Q == some .lt) = decide (m < n) := by
  rw [h1.order h2, Int.compare_eq_ite_lt]
  by_cases a : m < n
  · rw [if_pos a, decide_eq_true a]; rfl
  · rw [if_neg a, decide_eq_false a]
    by_cases b : n < m
    · rw [if_pos b]; rfl
    · rw [if_neg b]; rfl
theorem ZW.gtr {m n : Int} {P Q : Nat} (h1 : ZW m P) (h2 : ZW n Q) : (FloatKind.f64.format.order P Q == some .gt) = decide (n < m) := by
  rw [h1.order h2, Int.compare_eq_ite_lt]
  by_cases a : m < n
  · rw [if_pos a, decide_eq_false (by omega)]; rfl
  · rw [if_neg a]
    by_cases b : n < m
    · rw [if_pos b, decide_eq_true b]; rfl
    · rw [if_neg b, decide_eq_false b]; rfl
/-- Cut to an integer. -/
theorem ZW.int {n : Int} {P : Nat} (h : ZW n P) (W : World) : (convert 141 3 (.float .f64 P)).run Tryd.prog W = .ok (.int .i64 n) W := by
  obtain ⟨s, rfl, f⟩ := h
  refine run_convert_float_int W 141 3 .f64 .i64 _ n (by kernel_rfl) (by kernel_rfl) ?_
  have hn := f.n
  unfold floatToIntVal
  rw [fz_int f]
  dsimp only
  rw [if_pos]
  have e1 : IntKind.i64.min = -9223372036854775808 := by decide
  have e2 : IntKind.i64.max = 9223372036854775807 := by decide
  rw [e1, e2]
  rw [p53] at hn
  omega
end Go.Proofs.YtcnejgilmciljaaDoor
