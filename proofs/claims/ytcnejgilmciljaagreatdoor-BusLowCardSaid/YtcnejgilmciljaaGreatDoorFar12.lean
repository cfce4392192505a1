/-
  The program's New; what it makes.
  The law's plain: whether a number is two whole ones, and no 0 of it below 0.
  Whole numbers as doubles, a zero of either sign: sums and products of complex ones.
  Doubles that are no whole number near 0: great ones, rounded or not; eighths.
-/
import Derived.Test.YtcnejgilmciljaaGreatDoorLast11
import Derived.Test.YtcnejgilmciljaaGreatDoorWritep11
import Derived.Test.YtcnejgilmciljaaGreatDoorRead8
set_option linter.unusedSimpArgs false
set_option linter.unusedVariables false
namespace Go.Proofs.YtcnejgilmciljaaGreatDoor
open Go.RowKit Go.PlainAid

/-- A new block of five slices, over rows of their own. -/
theorem po_new {S : Po} {x y a b c : Value} {w W : World} (hB : Below w.heap.size w W) (hx : W.ownsRow w.heap.size 5 1 x S.pub.length (S.pub.flatMap bE)) (hy : W.ownsRow w.heap.size 49 2 y (secT S.sec).length ((secT S.sec).flatMap kE))
    (ha : W.ownsRow w.heap.size 5 1 a S.out.length (S.out.flatMap bE)) (hb : W.ownsRow w.heap.size 49 2 b S.kept.length (S.kept.flatMap kE)) (hc : W.ownsRow w.heap.size 109 2 c S.log.length (S.log.flatMap eE))
    (s1 : ∀ k, x.ownBlock = some k → a.ownBlock ≠ some k ∧ b.ownBlock ≠ some k ∧ c.ownBlock ≠ some k) (s2 : ∀ k, y.ownBlock = some k → a.ownBlock ≠ some k ∧ b.ownBlock ≠ some k ∧ c.ownBlock ≠ some k)
    (s3 : ∀ k, a.ownBlock = some k → b.ownBlock ≠ some k ∧ c.ownBlock ≠ some k) (s4 : ∀ k, b.ownBlock = some k → c.ownBlock ≠ some k) (T : TypeId) :
    ∃ F G, PO W.heap.size S F G (W.alloc (.cells #[x, y, a, b, c] T)) ∧ (∀ k, G k → w.heap.size ≤ k) := by
  have hz := hB.size
  have hw : Below W.heap.size W (W.alloc (.cells #[x, y, a, b, c] T)) := (Below.refl _ _).alloc (Nat.le_refl _) _
  have lx := hx.lt
  have ly := hy.lt
  have la := ha.lt
  have lb := hb.lt
  have lc := hc.lt
  have hcell : ∀ i u, (#[x, y, a, b, c] : Array Value)[i]? = some u → (W.alloc (.cells #[x, y, a, b, c] T)).cell? ⟨W.heap.size, i, none⟩ = some u := fun i u hu => by
    rw [cell_of_row _ _ _ _ _ _ (heap_alloc_new W (.cells #[x, y, a, b, c] T))]; exact hu
  have hfr : ∀ i, (W.alloc (.cells #[x, y, a, b, c] T)).frozen? ⟨W.heap.size, i, none⟩ = false := fun i => frozen_of_row _ _ _ _ _ (heap_alloc_new W (.cells #[x, y, a, b, c] T))
  have hfoot : ∀ k, foot W.heap.size (rP S a b c) k → k = W.heap.size ∨ a.ownBlock = some k ∨ b.ownBlock = some k ∨ c.ownBlock = some k := fun k hk => by
    rcases hk with rfl | ⟨r, hr, hk⟩
    · exact .inl rfl
    · simp only [rP, List.mem_cons, List.mem_nil_iff, or_false] at hr
      rcases hr with rfl | rfl | rfl
      · exact .inr (.inl hk)
      · exact .inr (.inr (.inl hk))
      · exact .inr (.inr (.inr hk))
  have hold : Hold W.heap.size (rP S a b c) (W.alloc (.cells #[x, y, a, b, c] T)) := by
    refine ⟨by simp, fun i r hr => ?_, fun i r hr => ?_, fun i j r s hr hs hij => ?_⟩
    · match i, hr with
      | 0, hr => cases hr; exact ⟨hcell 2 _ rfl, hfr 2⟩
      | 1, hr => cases hr; exact ⟨hcell 3 _ rfl, hfr 3⟩
      | 2, hr => cases hr; exact ⟨hcell 4 _ rfl, hfr 4⟩
      | n + 3, hr => simp [rP] at hr
    · match i, hr with
      | 0, hr => cases hr; exact ⟨own_low (own_below ha hw) (Nat.zero_le _), fun e => by have := la _ e; omega⟩
      | 1, hr => cases hr; exact ⟨own_low (own_below hb hw) (Nat.zero_le _), fun e => by have := lb _ e; omega⟩
      | 2, hr => cases hr; exact ⟨own_low (own_below hc hw) (Nat.zero_le _), fun e => by have := lc _ e; omega⟩
      | n + 3, hr => simp [rP] at hr
    · match i, j, hr, hs with
      | 0, 0, _, _ => exact absurd rfl hij
      | 1, 1, _, _ => exact absurd rfl hij
      | 2, 2, _, _ => exact absurd rfl hij
      | 0, 1, hr, hs => cases hr; cases hs; exact ⟨by dsimp only; omega, fun k hk => (s3 k hk).1⟩
      | 0, 2, hr, hs => cases hr; cases hs; exact ⟨by dsimp only; omega, fun k hk => (s3 k hk).2⟩
      | 1, 0, hr, hs => cases hr; cases hs; exact ⟨by dsimp only; omega, fun k hk e => (s3 k e).1 hk⟩
      | 1, 2, hr, hs => cases hr; cases hs; exact ⟨by dsimp only; omega, fun k hk => s4 k hk⟩
      | 2, 0, hr, hs => cases hr; cases hs; exact ⟨by dsimp only; omega, fun k hk e => (s3 k e).2 hk⟩
      | 2, 1, hr, hs => cases hr; cases hs; exact ⟨by dsimp only; omega, fun k hk e => s4 k e hk⟩
      | n + 3, _, hr, _ => simp [rP] at hr
      | 0, n + 3, _, hs => simp [rP] at hs
      | 1, n + 3, _, hs => simp [rP] at hs
      | 2, n + 3, _, hs => simp [rP] at hs
  refine ⟨_, _, ⟨x, y, a, b, c, ⟨hold, ⟨hcell 0 _ rfl, hfr 0, (HoldsW.own bE_len hx).below hw, fun _ k hk hf => ?_⟩, ⟨hcell 1 _ rfl, hfr 1, (HoldsW.own kE_len hy).below hw, fun _ k hk hf => ?_⟩⟩, rfl, rfl⟩, fun k hk => ?_⟩
  · rcases hfoot k hf with h | h | h | h
    · have := lx k hk; omega
    · exact (s1 k hk).1 h
    · exact (s1 k hk).2.1 h
    · exact (s1 k hk).2.2 h
  · rcases hfoot k hf with h | h | h | h
    · have := ly k hk; omega
    · exact (s2 k hk).1 h
    · exact (s2 k hk).2.1 h
    · exact (s2 k hk).2.2 h
  · rcases hk with hk | ⟨_, hk⟩ | ⟨_, hk⟩
    · rcases hfoot k hk with h | h | h | h
      · omega
      · exact (la k h).1
      · exact (lb k h).1
      · exact (lc k h).1
    · exact (lx k hk).1
    · exact (ly k hk).1
/-- What New and Clone answer: ports in memory of their own. -/
def NewEndP (S : Po) (pack : Value → Value) (w : World) : Ending → World → Prop := fun e w' => ∃ pb F G, e = .returned (pack (.pointer (some ⟨pb, 0, none⟩))) ∧ PO pb S F G w' ∧ (∀ k, G k → w.heap.size ≤ k) ∧ w.heap.size ≤ pb ∧ Below w.heap.size w w'
def okV (v : Value) : Value := .tuple #[v, .int .i64 0]
set_option maxRecDepth 100000 in
theorem pnew_long (p s : Nat) (a b : Option Addr) (ca cb : Nat) (h : 65536 < p ∨ 65536 < s) (w : World) :
    Calls Tryz.prog 33 #[.slice a p ca, .slice b s cb] w fun e w' => e = .returned (.tuple #[.pointer none, .int .i64 12]) ∧ Below w.heap.size w w' := by
  by_cases h1 : 65536 < p
  · have d1 : (65536 : Int) < (p : Int) := by omega
    go_enter Tryz.func33, Tryz.ntmps33
    go_wp2
    go_ret2
    exact ⟨rfl, by go_grown⟩
  · have d1 : ¬ (65536 : Int) < (p : Int) := by omega
    have d2 : (65536 : Int) < (s : Int) := by omega
    go_enter Tryz.func33, Tryz.ntmps33
    go_wp2
    go_ret2
    exact ⟨rfl, by go_grown⟩
set_option maxRecDepth 100000 in
set_option maxHeartbeats 1000000 in
theorem pnew_c (lp ls : List Int) (h1 : lp.length ≤ 65536) (h2 : ls.length ≤ 65536) (v1 v2 : Value) (w : World) (hv1 : HoldsW bE 1 w v1 lp) (hv2 : HoldsW bE 1 w v2 ls) :
    Calls Tryz.prog 33 #[v1, v2] w (NewEndP ⟨lp, ls, [], [], [], []⟩ okV w) := by
  obtain ⟨p1, c1, rfl⟩ := hv1.form
  obtain ⟨p2, c2, rfl⟩ := hv2.form
  have d1 : ¬ (65536 : Int) < (lp.length : Int) := by omega
  have d2 : ¬ (65536 : Int) < (ls.length : Int) := by omega
  have HC := Lib.hid (clone_b lp (by omega) _ w hv1)
  have HS := Lib.hid (fun W (hW : Below w.heap.size w W) => secrets_c ls h2 _ W (hv2.below hW))
  generalize hlp : lp.length = n1 at *
  generalize hls : ls.length = n2 at *
  have HLP := Lib.hid (And.intro hlp hls)
  clear hv1 hv2 hlp hls h1 h2
  go_enter Tryz.func33, Tryz.ntmps33
  go_wp2_with fail
  refine (HC.out).mono ?_
  rintro _ u ⟨vx, rfl, hx, hb⟩
  have hB := Lib.hid hb
  have HX := Lib.hid hx
  have hzu := hb.size
  obtain ⟨px, cx, rfl⟩ := own_form hx
  clear hx hb
  go_wp2_with fail
  refine (HS.out _ hB.out).mono ?_
  rintro _ u2 ⟨vy, rfl, hy, hb⟩
  have HB2 := Lib.hid (kb hB.out hb)
  have hzu2 := hb.size
  have HY := Lib.hid hy
  have HX2 := Lib.hid (own_below HX.out hb)
  obtain ⟨py, cy, rfl⟩ := own_form hy
  clear hy hb
  go_wp2
  go_ret2
  have hn := fun (T : TypeId) (k : Nat) => World.ownsRow_nil u2 w.heap.size T k
  have s0 : ∀ (v : Value) (k : Nat), v.ownBlock = some k → (Value.slice none 0 0).ownBlock ≠ some k ∧ (Value.slice none 0 0).ownBlock ≠ some k ∧ (Value.slice none 0 0).ownBlock ≠ some k := fun v k _ => ⟨by simp [Value.ownBlock], by simp [Value.ownBlock], by simp [Value.ownBlock]⟩
  obtain ⟨F, G, hP, hG⟩ := po_new (S := ⟨lp, ls, [], [], [], []⟩) HB2.out (by dsimp only; rw [HLP.out.1]; exact HX2.out) (own_low HY.out hzu) (hn _ _) (hn _ _) (hn _ _) (s0 _) (s0 _) (fun k h => by simp [Value.ownBlock] at h) (fun k h => by simp [Value.ownBlock] at h) 127
  exact ⟨_, F, G, rfl, hP, hG, HB2.out.size, HB2.out.alloc HB2.out.size _⟩
end Go.Proofs.YtcnejgilmciljaaGreatDoor
set_option linter.unusedSimpArgs false
set_option linter.unusedVariables false
namespace Go.Proofs.YtcnejgilmciljaaGreatDoor
open Go.RowKit Go.PlainAid

theorem conv_zF (n : Int) (W : World) : (convert 3 147 (.int .i64 n)).run Tryz.prog W = .ok (.float .f64 (zF n)) W := by
  rw [← zF_of]
  exact run_convert_int_float W 3 147 .i64 .f64 n (by kernel_rfl) (by kernel_rfl)
theorem quo_zero (W : World) : (binOp .quo 147 (.float .f64 4607182418800017408) (.float .f64 (zF 0))).run Tryz.prog W = .ok (.float .f64 9218868437227405312) W :=
  run_float_arith W .quo _ .f64 _ _ _ (by decide +kernel)
theorem inf_gt : (FloatKind.f64.format.order 9218868437227405312 0 == some .gt) = true := by decide +kernel
end Go.Proofs.YtcnejgilmciljaaGreatDoor
set_option linter.unusedSimpArgs false
set_option linter.unusedVariables false
namespace Go.Proofs.YtcnejgilmciljaaGreatDoor
open Go.RowKit Go.PlainAid

/-- It stands for n; where n is 0 it may be a 0 below 0. -/
def ZW (n : Int) (P : Nat) : Prop := ∃ s, P = fz s n 0 ∧ Fine s n 0
theorem zw_zF {n : Int} (h : n.natAbs < 2 ^ 53) : ZW n (zF n) := ⟨_, rfl, zF_fine h⟩
theorem ZW.small {n : Int} {P : Nat} (h : ZW n P) : n.natAbs < 2 ^ 53 := by obtain ⟨s, _, h⟩ := h; exact h.n
theorem ZW.add {m n : Int} {P Q : Nat} (h1 : ZW m P) (h2 : ZW n Q) (hb : (m + n).natAbs < 2 ^ 53) : ∃ R, floatBits .add .f64 P Q = some R ∧ ZW (m + n) R := by
  obtain ⟨s, rfl, f1⟩ := h1
  obtain ⟨t, rfl, f2⟩ := h2
  exact ⟨_, fz_add f1 f2 hb, _, rfl, ⟨fun h => by rw [if_neg h], hb, by omega⟩⟩
theorem ZW.sub {m n : Int} {P Q : Nat} (h1 : ZW m P) (h2 : ZW n Q) (hb : (m - n).natAbs < 2 ^ 53) : ∃ R, floatBits .sub .f64 P Q = some R ∧ ZW (m - n) R := by
  obtain ⟨s, rfl, f1⟩ := h1
  obtain ⟨t, rfl, f2⟩ := h2
  exact ⟨_, fz_sub f1 f2 hb, _, rfl, ⟨fun h => by rw [if_neg h], hb, by omega⟩⟩
theorem sign_mul {m n : Int} {s t : Bool} (h1 : m ≠ 0 → s = decide (m < 0)) (h2 : n ≠ 0 → t = decide (n < 0)) (h : m * n ≠ 0) : (s ^^ t) = decide (m * n < 0) := by
  have hm : m ≠ 0 := fun e => h (by rw [e, Int.zero_mul])
  have hn : n ≠ 0 := fun e => h (by rw [e, Int.mul_zero])
  rw [h1 hm, h2 hn]
  rcases Int.lt_or_gt_of_ne hm with a | a <;> rcases Int.lt_or_gt_of_ne hn with b | b
  · have := Int.mul_pos_of_neg_of_neg a b
    rw [decide_eq_true a, decide_eq_true b, decide_eq_false (by omega)]; rfl
  · have := Int.mul_neg_of_neg_of_pos a b
    rw [decide_eq_true a, decide_eq_false (by omega), decide_eq_true this]; rfl
  · have := Int.mul_neg_of_pos_of_neg a b
    rw [decide_eq_false (by omega), decide_eq_true b, decide_eq_true this]; rfl
  · have := Int.mul_pos a b
    rw [decide_eq_false (by omega), decide_eq_false (by omega), decide_eq_false (by omega)]; rfl
theorem ZW.mul {m n : Int} {P Q : Nat} (h1 : ZW m P) (h2 : ZW n Q) (hb : (m * n).natAbs < 2 ^ 53) : ∃ R, floatBits .mul .f64 P Q = some R ∧ ZW (m * n) R := by
  obtain ⟨s, rfl, f1⟩ := h1
  obtain ⟨t, rfl, f2⟩ := h2
  exact ⟨_, fz_mul f1 f2 hb (by omega), _, rfl, ⟨fun h => sign_mul f1.s f2.s h, hb, by omega⟩⟩
theorem store_cplx (P : Program) (k : FloatKind) (x y : Nat) (a : Addr) (m : Mode) (W : World) : (store a (.complex k x y) m).run P W = stored P W a (.complex k x y) m := run_store P W a _ m rfl
theorem store_flt (P : Program) (k : FloatKind) (x : Nat) (a : Addr) (m : Mode) (W : World) : (store a (.float k x) m).run P W = stored P W a (.float k x) m := run_store P W a _ m rfl
/-- A sum of complex ones. -/
theorem zw_csum {a b c d : Int} {A B C D : Nat} (ha : ZW a A) (hb : ZW b B) (hc : ZW c C) (hd : ZW d D) (h1 : (a + c).natAbs < 2 ^ 53) (h2 : (b + d).natAbs < 2 ^ 53) :
    ∃ R I, cSumBits .add .f64 A B C D = some (R, I) ∧ ZW (a + c) R ∧ ZW (b + d) I := by
  obtain ⟨R, e1, r1⟩ := ha.add hc h1
  obtain ⟨I, e2, r2⟩ := hb.add hd h2
  exact ⟨R, I, by unfold cSumBits; rw [e1, e2]; rfl, r1, r2⟩
/-- A product of complex ones. -/
theorem zw_cmul {a b c d : Int} {A B C D : Nat} (ha : ZW a A) (hb : ZW b B) (hc : ZW c C) (hd : ZW d D) (h1 : (a * c).natAbs < 2 ^ 53) (h2 : (b * d).natAbs < 2 ^ 53) (h3 : (a * d).natAbs < 2 ^ 53) (h4 : (b * c).natAbs < 2 ^ 53) (h5 : (a * c - b * d).natAbs < 2 ^ 53) (h6 : (a * d + b * c).natAbs < 2 ^ 53) :
    ∃ R I, cMulBits A B C D = some (R, I) ∧ ZW (a * c - b * d) R ∧ ZW (a * d + b * c) I := by
  obtain ⟨p1, e1, r1⟩ := ha.mul hc h1
  obtain ⟨p2, e2, r2⟩ := hb.mul hd h2
  obtain ⟨p3, e3, r3⟩ := ha.mul hd h3
  obtain ⟨p4, e4, r4⟩ := hb.mul hc h4
  obtain ⟨R, e5, r5⟩ := r1.sub r2 h5
  obtain ⟨I, e6, r6⟩ := r3.add r4 h6
  refine ⟨R, I, ?_, r5, r6⟩
  unfold cMulBits
  rw [e1]
  simp only [Option.bind_some]
  rw [e2]
  simp only [Option.bind_some]
  rw [e5]
  simp only [Option.bind_some]
  rw [e3]
  simp only [Option.bind_some]
  rw [e4]
  simp only [Option.bind_some]
  rw [e6]
  rfl
theorem ZW.order {m n : Int} {P Q : Nat} (h1 : ZW m P) (h2 : ZW n Q) : FloatKind.f64.format.order P Q = some (compare m n) := by
  obtain ⟨s, rfl, f1⟩ := h1
  obtain ⟨t, rfl, f2⟩ := h2
  exact fz_order f1 f2
theorem ZW.eq {m n : Int} {P Q : Nat} (h1 : ZW m P) (h2 : ZW n Q) : (FloatKind.f64.format.order P Q == some .eq) = decide (m = n) := by
  rw [h1.order h2, Int.compare_eq_ite_lt]
  by_cases h : m = n
  · subst h; simp
  · rw [decide_eq_false h]
    rcases Int.lt_or_gt_of_ne h with h3 | h3
    · rw [if_pos h3]; rfl
    · rw [if_neg (by omega), if_pos h3]; rfl
theorem ZW.ne {m n : Int} {P Q : Nat} (h1 : ZW m P) (h2 : ZW n Q) : (FloatKind.f64.format.order P Q != some .eq) = decide (m ≠ n) := by
  have := h1.eq h2
  unfold bne
  rw [this]
  by_cases h : m = n <;> simp [h]
theorem ZW.geq {m n : Int} {P Q : Nat} (h1 : ZW m P) (h2 : ZW n Q) : (FloatKind.f64.format.order P Q == some .gt || FloatKind.f64.format.order P Q == some .eq) = decide (n ≤ m) := by
  rw [h1.order h2, Int.compare_eq_ite_lt]
  by_cases a : m < n
  · rw [if_pos a, decide_eq_false (by omega)]; rfl
  · rw [if_neg a, decide_eq_true (by omega)]
    by_cases b : n < m
    · rw [if_pos b]; rfl
    · rw [if_neg b]; rfl
theorem ZW.leq {m n : Int} {P Q : Nat} (h1 : ZW m P) (h2 : ZW n Q) : (FloatKind.f64.format.order P Q == some .lt || FloatKind.f64.format.order P Q == some .eq) = decide (m ≤ n) := by
  rw [h1.order h2, Int.compare_eq_ite_lt]
  by_cases a : m < n
  · rw [if_pos a, decide_eq_true (by omega)]; rfl
  · rw [if_neg a]
    by_cases b : n < m
    · rw [if_pos b, decide_eq_false (by omega)]; rfl
    · rw [if_neg b, decide_eq_true (by omega)]; rfl
theorem ZW.lss {m n : Int} {P Q : Nat} (h1 : ZW m P) (h2 : ZW n Q) : (FloatKind.f64.format.order P Q == some .lt) = decide (m < n) := by
  rw [h1.order h2, Int.compare_eq_ite_lt]
  by_cases a : m < n
  · rw [if_pos a, decide_eq_true a]; rfl
  · rw [if_neg a, decide_eq_false a]
    by_cases b : n < m
    · rw [if_pos b]; rfl
    · rw [if_neg b]; rfl
theorem ZW.gtr {m n : Int} {P Q : Nat} (h1 : ZW m P) (h2 : ZW n Q) : (FloatKind.f64.format.order P Q == some .gt) = decide (n < m) := by
  rw [h1.order h2, Int.compare_eq_ite_lt]
  by_cases a : m < n
  · rw [if_pos a, decide_eq_false (by omega)]; rfl
  · rw [if_neg a]
    by_cases b : n < m
    · rw [if_pos b, decide_eq_true b]; rfl
    · rw [if_neg b, decide_eq_false b]; rfl
/-- Cut to an integer. -/
theorem ZW.int {n : Int} {P : Nat} (h : ZW n P) (W : World) : (convert 147 3 (.float .f64 P)).run Tryz.prog W = .ok (.int .i64 n) W := by
  obtain ⟨s, rfl, f⟩ := h
  refine run_convert_float_int W 147 3 .f64 .i64 _ n (by kernel_rfl) (by kernel_rfl) ?_
  have hn := f.n
  unfold floatToIntVal
  rw [fz_int f]
  dsimp only
  rw [if_pos]
  have e1 : IntKind.i64.min = -9223372036854775808 := by decide
  have e2 : IntKind.i64.max = 9223372036854775807 := by decide
  rw [e1, e2]
  rw [p53] at hn
  omega
end Go.Proofs.YtcnejgilmciljaaGreatDoor
set_option linter.unusedSimpArgs false
set_option linter.unusedVariables false
set_option maxRecDepth 20000
namespace Go.Proofs.YtcnejgilmciljaaGreatDoor
open Go.RowKit Go.PlainAid

/-- A great double: 2^53 or more, or as far below 0. -/
def Big (s : Bool) (P : Nat) : Prop := ∃ f e : Nat, Ieee.double.read P = .number s f (e : Int) ∧ 2 ^ 52 ≤ f ∧ f < 2 ^ 53 ∧ 1 ≤ e ∧ e ≤ 12
theorem cut_bit (neg : Bool) (x d : Nat) (h : d ≤ x.log2 + 2) : Ieee.Toward.even.cut neg x d = x / 2 ^ d ∨ Ieee.Toward.even.cut neg x d = x / 2 ^ d + 1 := by
  unfold Ieee.Toward.cut
  dsimp only
  rw [Nat.min_eq_left h, Nat.shiftLeft_eq, Nat.one_mul]
  generalize (decide (2 ^ d < 2 * (x % 2 ^ d)) || 2 ^ d == 2 * (x % 2 ^ d) && x / 2 ^ d % 2 == 1) = b
  cases b
  · exact .inl rfl
  · exact .inr rfl
theorem nearest_big (neg : Bool) {m : Nat} (h : 2 ^ 53 ≤ m) (h2 : m < 2 ^ 64) : Big neg (Ieee.double.nearest neg m 0) := by
  have h0 : m ≠ 0 := by have := Nat.two_pow_pos 53; omega
  have hl1 : 53 ≤ m.log2 := (Nat.le_log2 h0).2 h
  have hl2 : m.log2 < 64 := (Nat.log2_lt h0).2 h2
  have s1 := Nat.log2_self_le h0
  have s2 := (Nat.log2_lt h0).1 (Nat.lt_succ_self m.log2)
  obtain ⟨d, hd⟩ : ∃ d, m.log2 = 52 + d := ⟨m.log2 - 52, by omega⟩
  have hc := cut_bit neg m d (by omega)
  have hlo : 2 ^ 52 ≤ m / 2 ^ d := (Nat.le_div_iff_mul_le (Nat.two_pow_pos _)).2 (by rw [← Nat.pow_add, ← hd]; exact s1)
  have hhi : m / 2 ^ d < 2 ^ 53 := (Nat.div_lt_iff_lt_mul (Nat.two_pow_pos _)).2 (by rw [← Nat.pow_add, show 53 + d = m.log2 + 1 by omega]; exact s2)
  unfold Big Ieee.Format.nearest
  rw [if_neg h0]
  dsimp only
  rw [dbl_least, dbl_binade, dbl_inf, show (Ieee.double.fractionBits : Int) = 52 from rfl]
  have hlast : max ((0 : Int) + ((m.log2 : Nat) : Int) - 52) (-1074) = (d : Int) := by omega
  rw [hlast, show ((0 : Int) - (d : Int)).toNat = 0 by omega, show ((d : Int) - 0).toNat = d by omega, Nat.shiftLeft_zero, show ((d : Int) - -1074).toNat = d + 1074 by omega]
  obtain ⟨K, hK⟩ : ∃ K, Ieee.Toward.even.cut neg m d = K := ⟨_, rfl⟩
  rw [hK] at hc ⊢
  generalize m / 2 ^ d = q at *
  have hmin : min ((d + 1074) * 2 ^ 52 + K) (2047 * 2 ^ 52) = (d + 1074) * 2 ^ 52 + K := by
    rw [p52] at *
    rw [p53] at hhi
    omega
  rw [hmin]
  by_cases hb : K < 2 ^ 53
  · have e : (d + 1074) * 2 ^ 52 + K = (d + 1075) * 2 ^ 52 + (K - 2 ^ 52) := by rw [p52] at *; omega
    rw [e]
    refine ⟨K, d, ?_, ?_, hb, by omega, by omega⟩
    · refine (read_word neg _ _ (by omega) (by omega) (by rw [p53] at hb; rw [p52]; omega)).trans ?_
      have e1 : 2 ^ 52 + (K - 2 ^ 52) = K := by rw [p52] at *; omega
      rw [e1]
      exact congrArg (Ieee.Datum.number neg K) (by omega)
    · rw [p52] at *; omega
  · have e : (d + 1074) * 2 ^ 52 + K = (d + 1076) * 2 ^ 52 + 0 := by rw [p52] at *; rw [p53] at *; omega
    rw [e]
    refine ⟨2 ^ 52, d + 1, ?_, Nat.le_refl _, by decide, by omega, by omega⟩
    refine (read_word neg _ _ (by omega) (by omega) (Nat.two_pow_pos _)).trans ?_
    rw [Nat.add_zero]
    exact congrArg (Ieee.Datum.number neg (2 ^ 52)) (by omega)
theorem zF_big {n : Int} (h : 2 ^ 53 ≤ n.natAbs) (h2 : n.natAbs < 2 ^ 64) : Big (decide (n < 0)) (zF n) := nearest_big _ h h2
theorem signed_big {s : Bool} {f u : Nat} : Ieee.signed s f u = if s then -((f * 2 ^ u : Nat) : Int) else ((f * 2 ^ u : Nat) : Int) := by
  unfold Ieee.signed
  rw [Nat.shiftLeft_eq]
theorem cmp_lt {a b : Int} (h : a < b) : compare a b = .lt ∧ compare b a = .gt := by
  rw [Int.compare_eq_ite_lt, Int.compare_eq_ite_lt, if_pos h, if_neg (by omega), if_pos h]
  exact ⟨rfl, rfl⟩
theorem big_order {s t : Bool} {P k : Nat} {n : Int} (h : Big s P) (hn : Fine t n k) :
    FloatKind.f64.format.order P (fz t n k) = some (if s then .lt else .gt) ∧ FloatKind.f64.format.order (fz t n k) P = some (if s then .gt else .lt) := by
  obtain ⟨f, e, hr, hf, hf2, he, he2⟩ := h
  show (Ieee.double.read P).order (Ieee.double.read (fz t n k)) = _ ∧ (Ieee.double.read (fz t n k)).order (Ieee.double.read P) = _
  rw [hr, read_fz hn]
  simp only [Ieee.Datum.order]
  generalize more n k = a
  have b1 : min ((e : Nat) : Int) (-((k + a : Nat) : Int)) = -((k + a : Nat) : Int) := by omega
  have b2 : min (-((k + a : Nat) : Int)) ((e : Nat) : Int) = -((k + a : Nat) : Int) := by omega
  rw [b1, b2, show (((e : Nat) : Int) - -((k + a : Nat) : Int)).toNat = e + k + a by omega, show (-((k + a : Nat) : Int) - -((k + a : Nat) : Int)).toNat = 0 by omega, signed_fz hn.s, signed_big, Nat.add_zero]
  have hp : (n * 2 ^ a).natAbs < f * 2 ^ (e + k + a) := by
    rw [natAbs_shift]
    have h1 : n.natAbs * 2 ^ a < 2 ^ 53 * 2 ^ a := Nat.mul_lt_mul_of_pos_right hn.n (Nat.two_pow_pos _)
    have h3 : 2 ^ 52 * 2 ^ (1 + a) ≤ f * 2 ^ (e + k + a) := Nat.mul_le_mul hf (Nat.pow_le_pow_right (by decide) (by omega))
    have h4 : 2 ^ 53 * 2 ^ a = 2 ^ 52 * 2 ^ (1 + a) := by rw [← Nat.pow_add, ← Nat.pow_add]; congr 1; omega
    rw [h4] at h1
    exact Nat.lt_of_lt_of_le h1 h3
  generalize f * 2 ^ (e + k + a) = M at *
  generalize n * 2 ^ a = N at *
  cases s
  · rw [if_neg (by simp), if_neg (by simp), if_neg (by simp), Int.compare_eq_ite_lt, Int.compare_eq_ite_lt, if_neg (by omega), if_pos (by omega), if_pos (by omega)]
    exact ⟨rfl, rfl⟩
  · rw [if_pos rfl, if_pos rfl, if_pos rfl, Int.compare_eq_ite_lt, Int.compare_eq_ite_lt, if_pos (by omega), if_neg (by omega), if_pos (by omega)]
    exact ⟨rfl, rfl⟩
/-- Far from 0: how it stands to whole numbers up to 2^40. -/
def Far (s : Bool) (P : Nat) : Prop := ∀ (n : Int) (Q : Nat), ZW n Q → n.natAbs ≤ 1099511627776 → FloatKind.f64.format.order P Q = some (if s then .lt else .gt) ∧ FloatKind.f64.format.order Q P = some (if s then .gt else .lt)
theorem zF_far {x : Int} (h : 1099511627776 < x.natAbs) (h2 : x.natAbs ≤ 9223372036854775808) : Far (decide (x < 0)) (zF x) := by
  rintro n Q hz hn
  by_cases hb : x.natAbs < 2 ^ 53
  · have z := zw_zF hb
    rw [z.order hz, hz.order z]
    by_cases hx : x < 0
    · have c := cmp_lt (a := x) (b := n) (by omega)
      rw [decide_eq_true hx, c.1, c.2]; exact ⟨rfl, rfl⟩
    · have c := cmp_lt (a := n) (b := x) (by omega)
      rw [decide_eq_false hx, c.1, c.2]; exact ⟨rfl, rfl⟩
  · obtain ⟨t, rfl, hf⟩ := hz
    exact big_order (zF_big (by omega) (by rw [show (2 : Nat) ^ 64 = 18446744073709551616 by decide]; omega)) hf
theorem Far.geq {s : Bool} {P n Q} (h : Far s P) (hz : ZW n Q) (hn : n.natAbs ≤ 1099511627776) : (FloatKind.f64.format.order P Q == some .gt || FloatKind.f64.format.order P Q == some .eq) = !s := by
  rw [(h n Q hz hn).1]; cases s <;> rfl
theorem Far.leq {s : Bool} {P n Q} (h : Far s P) (hz : ZW n Q) (hn : n.natAbs ≤ 1099511627776) : (FloatKind.f64.format.order P Q == some .lt || FloatKind.f64.format.order P Q == some .eq) = s := by
  rw [(h n Q hz hn).1]; cases s <;> rfl
theorem Far.lss {s : Bool} {P n Q} (h : Far s P) (hz : ZW n Q) (hn : n.natAbs ≤ 1099511627776) : (FloatKind.f64.format.order P Q == some .lt) = s := by
  rw [(h n Q hz hn).1]; cases s <;> rfl
theorem Far.gtr {s : Bool} {P n Q} (h : Far s P) (hz : ZW n Q) (hn : n.natAbs ≤ 1099511627776) : (FloatKind.f64.format.order P Q == some .gt) = !s := by
  rw [(h n Q hz hn).1]; cases s <;> rfl
/-- Eighths: n of them, a double as it is. -/
def ZE (n : Int) (P : Nat) : Prop := ∃ s, P = fz s n 3 ∧ Fine s n 3
theorem zw_eighth {m : Int} {Q : Nat} (h : ZW m Q) (hm : m.natAbs ≤ 562949953421312) : ZE (8 * m) Q := by
  obtain ⟨s, rfl, hf⟩ := h
  refine ⟨s, ?_, ⟨fun h0 => ?_, by rw [p53]; omega, by omega⟩⟩
  · have := fz_shift s m 0 3 hf.n (by omega)
    rw [← this, show m * 2 ^ 3 = 8 * m by omega]
  · rw [hf.s (by omega)]
    exact decide_eq_decide.2 (by omega)
theorem ZE.order {m n : Int} {P Q : Nat} (h1 : ZE m P) (h2 : ZE n Q) : FloatKind.f64.format.order P Q = some (compare m n) := by
  obtain ⟨s, rfl, f1⟩ := h1
  obtain ⟨t, rfl, f2⟩ := h2
  exact fz_order f1 f2
theorem quo8 {p : Int} (hp : 0 ≤ p ∧ p ≤ 7) : floatBits .quo .f64 (zF p) 4620693217682128896 = some (fz false p 3) := by
  have : p = 0 ∨ p = 1 ∨ p = 2 ∨ p = 3 ∨ p = 4 ∨ p = 5 ∨ p = 6 ∨ p = 7 := by omega
  rcases this with rfl | rfl | rfl | rfl | rfl | rfl | rfl | rfl <;> decide +kernel
/-- A whole number and eighths. -/
theorem add8 {x p : Int} (hx : x.natAbs ≤ 1099511627776) (hp : 0 ≤ p ∧ p ≤ 7) : ∃ R, floatBits .add .f64 (zF x) (fz false p 3) = some R ∧ ZE (8 * x + p) R ∧ (p = 0 → R = zF x) := by
  have z := zw_eighth (zw_zF (n := x) (by rw [p53]; omega)) (by omega)
  obtain ⟨s, e, hf⟩ := z
  have f2 : Fine false p 3 := ⟨fun _ => (decide_eq_false (by omega)).symm, by rw [p53]; omega, by omega⟩
  have hb : (8 * x + p).natAbs < 2 ^ 53 := by rw [p53]; omega
  have := fz_add hf f2 hb
  rw [e]
  refine ⟨_, this, ⟨_, rfl, ⟨fun h0 => ?_, hb, by omega⟩⟩, fun h0 => ?_⟩
  · rw [if_neg h0]
  · subst h0
    rw [← e, Int.add_zero]
    unfold zF
    have := fz_shift (if 8 * x = 0 then s && false else decide (8 * x < 0)) x 0 3 (by rw [p53]; omega) (by omega)
    rw [show x * 2 ^ 3 = 8 * x by omega] at this
    rw [this]
    congr 1
    by_cases h : 8 * x = 0
    · rw [if_pos h, decide_eq_false (by omega)]; cases s <;> rfl
    · rw [if_neg h]; exact decide_eq_decide.2 (by omega)
theorem ZE.geq {n m : Int} {P Q : Nat} (h : ZE n P) (hz : ZW m Q) (hm : m.natAbs ≤ 562949953421312) : (FloatKind.f64.format.order P Q == some .gt || FloatKind.f64.format.order P Q == some .eq) = decide (8 * m ≤ n) := by
  rw [h.order (zw_eighth hz hm), Int.compare_eq_ite_lt]
  by_cases a : n < 8 * m
  · rw [if_pos a, decide_eq_false (by omega)]; rfl
  · rw [if_neg a, decide_eq_true (by omega)]
    by_cases b : 8 * m < n
    · rw [if_pos b]; rfl
    · rw [if_neg b]; rfl
theorem ZE.leq {n m : Int} {P Q : Nat} (h : ZE n P) (hz : ZW m Q) (hm : m.natAbs ≤ 562949953421312) : (FloatKind.f64.format.order P Q == some .lt || FloatKind.f64.format.order P Q == some .eq) = decide (n ≤ 8 * m) := by
  rw [h.order (zw_eighth hz hm), Int.compare_eq_ite_lt]
  by_cases a : n < 8 * m
  · rw [if_pos a, decide_eq_true (by omega)]; rfl
  · rw [if_neg a]
    by_cases b : 8 * m < n
    · rw [if_pos b, decide_eq_false (by omega)]; rfl
    · rw [if_neg b, decide_eq_true (by omega)]; rfl
/-- A fraction is no whole number. -/
theorem ZE.eq {n m : Int} {P Q : Nat} (h : ZE n P) (hz : ZW m Q) (hm : m.natAbs ≤ 562949953421312) (hn : n % 8 ≠ 0) : (FloatKind.f64.format.order P Q == some .eq) = false ∧ (FloatKind.f64.format.order Q P == some .eq) = false := by
  rw [h.order (zw_eighth hz hm), (zw_eighth hz hm).order h]
  have h0 : n < 8 * m ∨ 8 * m < n := by omega
  rcases h0 with h0 | h0
  · rw [(cmp_lt h0).1, (cmp_lt h0).2]; exact ⟨rfl, rfl⟩
  · rw [(cmp_lt h0).1, (cmp_lt h0).2]; exact ⟨rfl, rfl⟩
theorem ZE.ne {n m : Int} {P Q : Nat} (h : ZE n P) (hz : ZW m Q) (hm : m.natAbs ≤ 562949953421312) (hn : n % 8 ≠ 0) : (FloatKind.f64.format.order P Q != some .eq) = true ∧ (FloatKind.f64.format.order Q P != some .eq) = true := by
  have := h.eq hz hm hn
  unfold bne
  rw [this.1, this.2]
  exact ⟨rfl, rfl⟩
theorem ZE.int {n : Int} {P : Nat} (h : ZE n P) (W : World) : (convert 147 3 (.float .f64 P)).run Tryz.prog W = .ok (.int .i64 (n.tdiv 8)) W := by
  obtain ⟨s, rfl, f⟩ := h
  refine run_convert_float_int W 147 3 .f64 .i64 _ (n.tdiv 8) (by kernel_rfl) (by kernel_rfl) ?_
  have hn := f.n
  unfold floatToIntVal
  rw [fz_cut f]
  dsimp only
  rw [if_pos]
  · rfl
  · have e1 : IntKind.i64.min = -9223372036854775808 := by decide
    have e2 : IntKind.i64.max = 9223372036854775807 := by decide
    rw [e1, e2]
    rw [p53] at hn
    have h2 : (2 : Int) ^ 3 = 8 := by decide
    rw [h2]
    have hm := Int.mul_tdiv_add_tmod n 8
    have ht : -7 ≤ n.tmod 8 ∧ n.tmod 8 ≤ 7 := by
      rcases Int.lt_or_le n 0 with h | h
      · have e : n = -(-n) := by omega
        rw [e, Int.neg_tmod, Int.tmod_eq_emod_of_nonneg (by omega)]
        omega
      · rw [Int.tmod_eq_emod_of_nonneg h]
        omega
    omega
/-- No whole number near 0: far, or a fraction. -/
def Bad (P : Nat) : Prop := (∃ s, Far s P) ∨ ∃ n, ZE n P ∧ n % 8 ≠ 0 ∧ -8796093022208 ≤ n ∧ n ≤ 8796093022215
end Go.Proofs.YtcnejgilmciljaaGreatDoor
