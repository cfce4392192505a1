/-
  FlagsSets returns true: the walk.
-/
import Derived.Test.YtdpoonmgailonaaDoorBits2
import Derived.Test.YtdpoonmgailonaaDoorAwake3
set_option linter.unusedSimpArgs false
set_option linter.unusedVariables false
namespace Go.Proofs.YtdpoonmgailonaaDoor
open Go.RowKit

set_option maxRecDepth 100000 in
set_option maxHeartbeats 8000000 in
theorem sets_walk' (x t Q QT R RT U UT S ST : BitVec 8) (xi yi : Int) (xv xs yv ys g gt : Bool)
    (c1 : ∀ w, Calls Tryd.prog 10 #[TB x t, .int .i64 xi, TBit xv xs] w fun e w' => e = .returned (TB Q QT) ∧ Below w.heap.size w w')
    (c2 : ∀ w, Calls Tryd.prog 10 #[TB Q QT, .int .i64 yi, TBit yv ys] w fun e w' => e = .returned (TB R RT) ∧ Below w.heap.size w w')
    (c3 : ∀ w, Calls Tryd.prog 10 #[TB x t, .int .i64 yi, TBit yv ys] w fun e w' => e = .returned (TB U UT) ∧ Below w.heap.size w w')
    (c4 : ∀ w, Calls Tryd.prog 10 #[TB U UT, .int .i64 xi, TBit xv xs] w fun e w' => e = .returned (TB S ST) ∧ Below w.heap.size w w')
    (c5 : ∀ w, Calls Tryd.prog 8 #[TB x t, .int .i64 xi] w fun e w' => e = .returned (TBit g gt) ∧ Below w.heap.size w w')
    (c6 : ∀ w, Calls Tryd.prog 10 #[TB Q QT, .int .i64 xi, TBit g gt] w fun e w' => e = .returned (TB x t) ∧ Below w.heap.size w w')
    (hx : ∀ k : Nat, k < 8 → (k : Int) = xi → getI Q k = xv ∧ getI QT k = xs) (hk : ∀ k : Nat, k < 8 → (k : Int) ≠ xi → getI Q k = getI x k ∧ getI QT k = getI t k)
    (hne : xi = yi ∨ (S = R ∧ ST = RT)) (hout : (0 ≤ xi ∧ xi < 8) ∨ (Q = x ∧ QT = t)) (w : World) :
    Calls Tryd.prog 7 #[TB x t, .agg #[.int .i64 xi, .bool xv, .bool xs], .agg #[.int .i64 yi, .bool yv, .bool ys]] w (LawEnd w) := by
  have H1 := Lib.hid c1
  have H2 := Lib.hid c2
  have H3 := Lib.hid c3
  have H4 := Lib.hid c4
  have H5 := Lib.hid c5
  have H6 := Lib.hid c6
  have HX := Lib.hid hx
  have HK := Lib.hid hk
  have HN := Lib.hid hne
  have HO := Lib.hid hout
  clear c1 c2 c3 c4 c5 c6 hx hk hne hout
  go_enter Tryd.func7, Tryd.ntmps7
  go_wp2_with fail
  ((with_reducible refine (H1.out _).mono ?_); rintro _ w1 ⟨rfl, hb⟩)
  have T : w1.cell? ⟨w.heap.size, 0, none⟩ = some (B8 x) ∧ w1.cell? ⟨w.heap.size, 1, none⟩ = some (B8 t) ∧ w1.cell? ⟨w.heap.size + 1, 0, none⟩ = some (.int .i64 xi) ∧ w1.cell? ⟨w.heap.size + 1, 1, none⟩ = some (.bool xv) ∧ w1.cell? ⟨w.heap.size + 1, 2, none⟩ = some (.bool xs) ∧ w1.cell? ⟨w.heap.size + 1 + 1, 0, none⟩ = some (.int .i64 yi) ∧ w1.cell? ⟨w.heap.size + 1 + 1, 1, none⟩ = some (.bool yv) ∧ w1.cell? ⟨w.heap.size + 1 + 1, 2, none⟩ = some (.bool ys) := by
      refine ⟨?_, ?_, ?_, ?_, ?_, ?_, ?_, ?_⟩ <;> refine kc hb ?_ <;> (go_simp; first | done | rfl)
  have hz := hb.size
  (try simp only [World.size_alloc, World.size_setCell, World.size_drew] at hz)
  have hlp' : w.heap.size < w1.heap.size := by omega
  have hla' : w.heap.size + 1 < w1.heap.size := by omega
  have hlb' : w.heap.size + 1 + 1 < w1.heap.size := by omega
  have hB' : Below w.heap.size w w1 := by
      refine kb ?_ hb
      go_grown
  clear hb hz
  obtain ⟨hp_0, hp_1, ha_0, ha_1, ha_2, hb_0, hb_1, hb_2⟩ := T
  have hlp := hlp'; clear hlp'
  have hla := hla'; clear hla'
  have hlb := hlb'; clear hlb'
  have hnp0 : ¬ (w.heap.size = w1.heap.size) := by omega
  have hnp1 : ¬ (w.heap.size = w1.heap.size + 1) := by omega
  have hkp1 : w.heap.size < w1.heap.size + 1 := by omega
  have hnp2 : ¬ (w.heap.size = w1.heap.size + 1 + 1) := by omega
  have hkp2 : w.heap.size < w1.heap.size + 1 + 1 := by omega
  have hna0 : ¬ (w.heap.size + 1 = w1.heap.size) := by omega
  have hka1 : w.heap.size < w1.heap.size := by omega
  have hnb0 : ¬ (w.heap.size + 1 + 1 = w1.heap.size) := by omega
  have hkb1 : w.heap.size + 1 < w1.heap.size := by omega
  have hB := hB'; clear hB'
  have hsz := hB.size
  go_wp2_with fail
  ((with_reducible refine (H2.out _).mono ?_); rintro _ w2 ⟨rfl, hb⟩)
  have T : w2.cell? ⟨w.heap.size, 0, none⟩ = some (B8 x) ∧ w2.cell? ⟨w.heap.size, 1, none⟩ = some (B8 t) ∧ w2.cell? ⟨w.heap.size + 1, 0, none⟩ = some (.int .i64 xi) ∧ w2.cell? ⟨w.heap.size + 1, 1, none⟩ = some (.bool xv) ∧ w2.cell? ⟨w.heap.size + 1, 2, none⟩ = some (.bool xs) ∧ w2.cell? ⟨w.heap.size + 1 + 1, 0, none⟩ = some (.int .i64 yi) ∧ w2.cell? ⟨w.heap.size + 1 + 1, 1, none⟩ = some (.bool yv) ∧ w2.cell? ⟨w.heap.size + 1 + 1, 2, none⟩ = some (.bool ys) ∧ w2.cell? ⟨w1.heap.size, 0, none⟩ = some (B8 Q) ∧ w2.cell? ⟨w1.heap.size, 1, none⟩ = some (B8 QT) := by
      refine ⟨?_, ?_, ?_, ?_, ?_, ?_, ?_, ?_, ?_, ?_⟩ <;> refine kc hb ?_ <;> (go_simp; first | done | rfl)
  have hz := hb.size
  (try simp only [World.size_alloc, World.size_setCell, World.size_drew] at hz)
  have hlp' : w.heap.size < w2.heap.size := by omega
  have hla' : w.heap.size + 1 < w2.heap.size := by omega
  have hlb' : w.heap.size + 1 + 1 < w2.heap.size := by omega
  have hlq' : w1.heap.size < w2.heap.size := by omega
  have hB' : Below w.heap.size w w2 := by
      refine kb ?_ hb
      go_grown
  clear hp_0 hp_1 ha_0 ha_1 ha_2 hb_0 hb_1 hb_2 hlp hla hlb hnp0 hnp1 hkp1 hnp2 hkp2 hna0 hka1 hnb0 hkb1 hB hsz
  clear hb hz
  obtain ⟨hp_0, hp_1, ha_0, ha_1, ha_2, hb_0, hb_1, hb_2, hq_0, hq_1⟩ := T
  have hlp := hlp'; clear hlp'
  have hla := hla'; clear hla'
  have hlb := hlb'; clear hlb'
  have hlq := hlq'; clear hlq'
  have hnp0 : ¬ (w.heap.size = w2.heap.size) := by omega
  have hnp1 : ¬ (w.heap.size = w2.heap.size + 1) := by omega
  have hkp1 : w.heap.size < w2.heap.size + 1 := by omega
  have hnp2 : ¬ (w.heap.size = w2.heap.size + 1 + 1) := by omega
  have hkp2 : w.heap.size < w2.heap.size + 1 + 1 := by omega
  have hna0 : ¬ (w.heap.size + 1 = w2.heap.size) := by omega
  have hka1 : w.heap.size < w2.heap.size := by omega
  have hnb0 : ¬ (w.heap.size + 1 + 1 = w2.heap.size) := by omega
  have hkb1 : w.heap.size + 1 < w2.heap.size := by omega
  have hnq0 : ¬ (w1.heap.size = w2.heap.size) := by omega
  have hnq1 : ¬ (w1.heap.size = w2.heap.size + 1) := by omega
  have hkq1 : w1.heap.size < w2.heap.size + 1 := by omega
  have hnq2 : ¬ (w1.heap.size = w2.heap.size + 1 + 1) := by omega
  have hkq2 : w1.heap.size < w2.heap.size + 1 + 1 := by omega
  have hB := hB'; clear hB'
  have hsz := hB.size
  go_wp2_with fail
  refine wp_region_planA 12 11 9 #[.int .u8 0, .int .u8 0] 23 (fun w' => w'.cell? ⟨w.heap.size, 0, none⟩ = some (B8 x) ∧ w'.cell? ⟨w.heap.size, 1, none⟩ = some (B8 t) ∧ w'.cell? ⟨w.heap.size + 1, 0, none⟩ = some (.int .i64 xi) ∧ w'.cell? ⟨w.heap.size + 1, 1, none⟩ = some (.bool xv) ∧ w'.cell? ⟨w.heap.size + 1, 2, none⟩ = some (.bool xs) ∧ w'.cell? ⟨w.heap.size + 1 + 1, 0, none⟩ = some (.int .i64 yi) ∧ w'.cell? ⟨w.heap.size + 1 + 1, 1, none⟩ = some (.bool yv) ∧ w'.cell? ⟨w.heap.size + 1 + 1, 2, none⟩ = some (.bool ys) ∧ w'.cell? ⟨w1.heap.size, 0, none⟩ = some (B8 Q) ∧ w'.cell? ⟨w1.heap.size, 1, none⟩ = some (B8 QT) ∧ w'.cell? ⟨w2.heap.size, 0, none⟩ = some (B8 R) ∧ w'.cell? ⟨w2.heap.size, 1, none⟩ = some (B8 RT) ∧ Below w.heap.size w w') (fun bs w' => w'.cell? ⟨bs, 0, none⟩ = some (.int .u8 0) ∧ w'.frozen? ⟨bs, 0, none⟩ = false ∧ w'.cell? ⟨bs, 1, none⟩ = some (.int .u8 0) ∧ w'.frozen? ⟨bs, 1, none⟩ = false ∧ w.heap.size ≤ bs ∧ w.heap.size < bs ∧ w.heap.size + 1 < bs ∧ w.heap.size + 1 + 1 < bs ∧ w1.heap.size < bs ∧ w2.heap.size < bs) (by kernel_rfl) (by kernel_rfl) (by kernel_rfl) (by kernel_rfl) (by kernel_rfl) ?_ (fun W w1 hSw hb => ⟨kc hb hSw.1, kc hb hSw.2.1, kc hb hSw.2.2.1, kc hb hSw.2.2.2.1, kc hb hSw.2.2.2.2.1, kc hb hSw.2.2.2.2.2.1, kc hb hSw.2.2.2.2.2.2.1, kc hb hSw.2.2.2.2.2.2.2.1, kc hb hSw.2.2.2.2.2.2.2.2.1, kc hb hSw.2.2.2.2.2.2.2.2.2.1, kc hb hSw.2.2.2.2.2.2.2.2.2.2.1, kc hb hSw.2.2.2.2.2.2.2.2.2.2.2.1, kb hSw.2.2.2.2.2.2.2.2.2.2.2.2 hb⟩) (fun bs W w1 hEw hb => ⟨kc hb hEw.1, kfz hb (klt hEw.1) hEw.2.1, kc hb hEw.2.2.1, kfz hb (klt hEw.2.2.1) hEw.2.2.2.1, hEw.2.2.2.2⟩) ?_ ?_ ?_
  · intro a W; show (execOp _ _).run _ _ = _; first | rfl | kernel_rfl
  · intro W hSw
    have hzW := (hSw.2.2.2.2.2.2.2.2.2.2.2.2).size
    have hkW0 := klt (hSw.1)
    have hkW2 := klt (hSw.2.2.1)
    have hkW5 := klt (hSw.2.2.2.2.2.1)
    have hkW8 := klt (hSw.2.2.2.2.2.2.2.2.1)
    have hkW10 := klt (hSw.2.2.2.2.2.2.2.2.2.2.1)
    refine ⟨?_, ?_, ?_, ?_, ?_, ?_, ?_, ?_, ?_, ?_⟩ <;> first | (go_simp; done) | omega | (dsimp only; omega)
  · (try dsimp only)
    refine ⟨?_, ?_, ?_, ?_, ?_, ?_, ?_, ?_, ?_, ?_, ?_, ?_, ?_⟩ <;> first | (go_simp; done) | (simp [*]; done) | go_grown
  (try simp only [List.append_eq, List.cons_append, List.nil_append, List.toList_toArray, List.take_succ_cons, List.take_zero, List.drop_succ_cons, List.drop_zero])
  repeat (first
    | (refine PlanA.skip (by decide) ?_)
    | (refine PlanA.val (v := ?_) (by decide) ?_ ?_ ?_; rotate_left; (· rfl); (· (intro W hSw; (try dsimp only at hSw); go_simp; all_goals (first | (with_reducible rfl) | (constructor <;> (with_reducible rfl))))); (try simp only [Act.put, List.setIfInBounds_toArray, List.set_cons_zero, List.set_cons_succ]))
    | (refine PlanA.no (by decide) ?_ ?_; (· rfl); (try simp only [Act.put, List.setIfInBounds_toArray, List.set_cons_zero, List.set_cons_succ]))
    | (refine PlanA.call (v := ?_) (f := ?_) (args := ?_) (by decide) ?_ ?_ ?_ ?_; rotate_left 3; (· rfl); (· (intro W hSw; (try dsimp only at hSw); go_simp; all_goals (first | (with_reducible rfl) | (constructor <;> (with_reducible rfl))))); (· (intro W hSw; (try dsimp only at hSw); first | (go_at_call 10; ((with_reducible refine (H3.out _).mono ?_); rintro _ wz ⟨rfl, hb⟩; (refine ⟨?_, hb⟩; with_reducible rfl))) | (go_at_call 10; ((with_reducible refine (H4.out _).mono ?_); rintro _ wz ⟨rfl, hb⟩; (refine ⟨?_, hb⟩; with_reducible rfl))))); (try simp only [Act.put, List.setIfInBounds_toArray, List.set_cons_zero, List.set_cons_succ])))
  refine PlanA.done ?_
  intro bs w3 T E
  (try dsimp only at T E)
  (try simp only [Act.put, List.setIfInBounds_toArray, List.set_cons_zero, List.set_cons_succ])
  clear hp_0 hp_1 ha_0 ha_1 ha_2 hb_0 hb_1 hb_2 hq_0 hq_1 hlp hla hlb hlq hnp0 hnp1 hkp1 hnp2 hkp2 hna0 hka1 hnb0 hkb1 hnq0 hnq1 hkq1 hnq2 hkq2 hB hsz
  obtain ⟨hp_0, hp_1, ha_0, ha_1, ha_2, hb_0, hb_1, hb_2, hq_0, hq_1, hr_0, hr_1, hB⟩ := T
  obtain ⟨hz_0, fz_0, hz_1, fz_1, hg_bs, hq_bs_p, hq_bs_a, hq_bs_b, hq_bs_q, hq_bs_r⟩ := E
  have hr_bs_p : ¬ w.heap.size = bs := by omega
  have hs_bs_p : ¬ bs = w.heap.size := by omega
  have hr_bs_a : ¬ w.heap.size + 1 = bs := by omega
  have hs_bs_a : ¬ bs = w.heap.size + 1 := by omega
  have hr_bs_b : ¬ w.heap.size + 1 + 1 = bs := by omega
  have hs_bs_b : ¬ bs = w.heap.size + 1 + 1 := by omega
  have hr_bs_q : ¬ w1.heap.size = bs := by omega
  have hs_bs_q : ¬ bs = w1.heap.size := by omega
  have hr_bs_r : ¬ w2.heap.size = bs := by omega
  have hs_bs_r : ¬ bs = w2.heap.size := by omega
  have hsz := hB.size
  have hlp := klt hp_0
  have hla := klt ha_0
  have hlb := klt hb_0
  have hlq := klt hq_0
  have hlr := klt hr_0
  have hlz := klt hz_0
  have hnp0 : ¬ (w.heap.size = w3.heap.size) := by omega
  have hnp1 : ¬ (w.heap.size = w3.heap.size + 1) := by omega
  have hkp1 : w.heap.size < w3.heap.size + 1 := by omega
  have hnp2 : ¬ (w.heap.size = w3.heap.size + 1 + 1) := by omega
  have hkp2 : w.heap.size < w3.heap.size + 1 + 1 := by omega
  have hna0 : ¬ (w.heap.size + 1 = w3.heap.size) := by omega
  have hka1 : w.heap.size < w3.heap.size := by omega
  have hnb0 : ¬ (w.heap.size + 1 + 1 = w3.heap.size) := by omega
  have hkb1 : w.heap.size + 1 < w3.heap.size := by omega
  have hnq0 : ¬ (w1.heap.size = w3.heap.size) := by omega
  have hnq1 : ¬ (w1.heap.size = w3.heap.size + 1) := by omega
  have hkq1 : w1.heap.size < w3.heap.size + 1 := by omega
  have hnq2 : ¬ (w1.heap.size = w3.heap.size + 1 + 1) := by omega
  have hkq2 : w1.heap.size < w3.heap.size + 1 + 1 := by omega
  have hnr0 : ¬ (w2.heap.size = w3.heap.size) := by omega
  have hnr1 : ¬ (w2.heap.size = w3.heap.size + 1) := by omega
  have hkr1 : w2.heap.size < w3.heap.size + 1 := by omega
  have hnr2 : ¬ (w2.heap.size = w3.heap.size + 1 + 1) := by omega
  have hkr2 : w2.heap.size < w3.heap.size + 1 + 1 := by omega
  have hnz0 : ¬ (bs = w3.heap.size) := by omega
  have hnz1 : ¬ (bs = w3.heap.size + 1) := by omega
  have hkz1 : bs < w3.heap.size + 1 := by omega
  have hnz2 : ¬ (bs = w3.heap.size + 1 + 1) := by omega
  have hkz2 : bs < w3.heap.size + 1 + 1 := by omega
  go_wp2_with fail
  refine wp_pin (fun w' => w'.cell? ⟨w.heap.size, 0, none⟩ = some (B8 x) ∧ w'.cell? ⟨w.heap.size, 1, none⟩ = some (B8 t) ∧ w'.cell? ⟨w.heap.size + 1, 0, none⟩ = some (.int .i64 xi) ∧ w'.cell? ⟨w.heap.size + 1, 1, none⟩ = some (.bool xv) ∧ w'.cell? ⟨w.heap.size + 1, 2, none⟩ = some (.bool xs) ∧ w'.cell? ⟨w.heap.size + 1 + 1, 0, none⟩ = some (.int .i64 yi) ∧ w'.cell? ⟨w.heap.size + 1 + 1, 1, none⟩ = some (.bool yv) ∧ w'.cell? ⟨w.heap.size + 1 + 1, 2, none⟩ = some (.bool ys) ∧ w'.cell? ⟨w1.heap.size, 0, none⟩ = some (B8 Q) ∧ w'.cell? ⟨w1.heap.size, 1, none⟩ = some (B8 QT) ∧ w'.cell? ⟨w2.heap.size, 0, none⟩ = some (B8 R) ∧ w'.cell? ⟨w2.heap.size, 1, none⟩ = some (B8 RT) ∧ w'.cell? ⟨bs, 0, none⟩ = some (B8 S) ∧ w'.cell? ⟨bs, 1, none⟩ = some (B8 ST) ∧ Below w.heap.size w w') ?_ ?_
  · (try dsimp only)
    refine ⟨?_, ?_, ?_, ?_, ?_, ?_, ?_, ?_, ?_, ?_, ?_, ?_, ?_, ?_, ?_⟩ <;> first | (go_simp; done) | (simp [*]; done) | go_grown
  intro w5 T
  (try dsimp only at T)
  clear hp_0 hp_1 ha_0 ha_1 ha_2 hb_0 hb_1 hb_2 hq_0 hq_1 hr_0 hr_1 hz_0 fz_0 hz_1 fz_1 hB hsz hlp hla hlb hlq hlr hlz hnp0 hnp1 hkp1 hnp2 hkp2 hna0 hka1 hnb0 hkb1 hnq0 hnq1 hkq1 hnq2 hkq2 hnr0 hnr1 hkr1 hnr2 hkr2 hnz0 hnz1 hkz1 hnz2 hkz2
  obtain ⟨hp_0, hp_1, ha_0, ha_1, ha_2, hb_0, hb_1, hb_2, hq_0, hq_1, hr_0, hr_1, hs_0, hs_1, hB⟩ := T
  have hsz := hB.size
  have hlp := klt hp_0
  have hla := klt ha_0
  have hlb := klt hb_0
  have hlq := klt hq_0
  have hlr := klt hr_0
  have hls := klt hs_0
  have hnp0 : ¬ (w.heap.size = w5.heap.size) := by omega
  have hnp1 : ¬ (w.heap.size = w5.heap.size + 1) := by omega
  have hkp1 : w.heap.size < w5.heap.size + 1 := by omega
  have hnp2 : ¬ (w.heap.size = w5.heap.size + 1 + 1) := by omega
  have hkp2 : w.heap.size < w5.heap.size + 1 + 1 := by omega
  have hna0 : ¬ (w.heap.size + 1 = w5.heap.size) := by omega
  have hka1 : w.heap.size < w5.heap.size := by omega
  have hnb0 : ¬ (w.heap.size + 1 + 1 = w5.heap.size) := by omega
  have hkb1 : w.heap.size + 1 < w5.heap.size := by omega
  have hnq0 : ¬ (w1.heap.size = w5.heap.size) := by omega
  have hnq1 : ¬ (w1.heap.size = w5.heap.size + 1) := by omega
  have hkq1 : w1.heap.size < w5.heap.size + 1 := by omega
  have hnq2 : ¬ (w1.heap.size = w5.heap.size + 1 + 1) := by omega
  have hkq2 : w1.heap.size < w5.heap.size + 1 + 1 := by omega
  have hnr0 : ¬ (w2.heap.size = w5.heap.size) := by omega
  have hnr1 : ¬ (w2.heap.size = w5.heap.size + 1) := by omega
  have hkr1 : w2.heap.size < w5.heap.size + 1 := by omega
  have hnr2 : ¬ (w2.heap.size = w5.heap.size + 1 + 1) := by omega
  have hkr2 : w2.heap.size < w5.heap.size + 1 + 1 := by omega
  have hns0 : ¬ (bs = w5.heap.size) := by omega
  have hns1 : ¬ (bs = w5.heap.size + 1) := by omega
  have hks1 : bs < w5.heap.size + 1 := by omega
  have hns2 : ¬ (bs = w5.heap.size + 1 + 1) := by omega
  have hks2 : bs < w5.heap.size + 1 + 1 := by omega
  obtain ⟨wo, hwo⟩ : ∃ wo, wo = w := ⟨w, rfl⟩
  subst hwo
  obtain ⟨w, hw5⟩ : ∃ w, w = w5 := ⟨w5, rfl⟩
  subst hw5
  have T : w.cell? ⟨wo.heap.size, 0, none⟩ = some (B8 x) ∧ w.cell? ⟨wo.heap.size, 1, none⟩ = some (B8 t) ∧ w.cell? ⟨wo.heap.size + 1, 0, none⟩ = some (.int .i64 xi) ∧ w.cell? ⟨wo.heap.size + 1, 1, none⟩ = some (.bool xv) ∧ w.cell? ⟨wo.heap.size + 1, 2, none⟩ = some (.bool xs) ∧ w.cell? ⟨wo.heap.size + 1 + 1, 0, none⟩ = some (.int .i64 yi) ∧ w.cell? ⟨wo.heap.size + 1 + 1, 1, none⟩ = some (.bool yv) ∧ w.cell? ⟨wo.heap.size + 1 + 1, 2, none⟩ = some (.bool ys) ∧ w.cell? ⟨w1.heap.size, 0, none⟩ = some (B8 Q) ∧ w.cell? ⟨w1.heap.size, 1, none⟩ = some (B8 QT) ∧ w.cell? ⟨w2.heap.size, 0, none⟩ = some (B8 R) ∧ w.cell? ⟨w2.heap.size, 1, none⟩ = some (B8 RT) ∧ w.cell? ⟨bs, 0, none⟩ = some (B8 S) ∧ w.cell? ⟨bs, 1, none⟩ = some (B8 ST) ∧ Below w.heap.size w w := ⟨hp_0, hp_1, ha_0, ha_1, ha_2, hb_0, hb_1, hb_2, hq_0, hq_1, hr_0, hr_1, hs_0, hs_1, Below.refl _ _⟩
  have hBo := hB
  have hso := hsz
  clear hp_0 hp_1 ha_0 ha_1 ha_2 hb_0 hb_1 hb_2 hq_0 hq_1 hr_0 hr_1 hs_0 hs_1 hB hsz hlp hla hlb hlq hlr hls hnp0 hnp1 hkp1 hnp2 hkp2 hna0 hka1 hnb0 hkb1 hnq0 hnq1 hkq1 hnq2 hkq2 hnr0 hnr1 hkr1 hnr2 hkr2 hns0 hns1 hks1 hns2 hks2
  obtain ⟨hp_0, hp_1, ha_0, ha_1, ha_2, hb_0, hb_1, hb_2, hq_0, hq_1, hr_0, hr_1, hs_0, hs_1, hB⟩ := T
  have hsz := hB.size
  have hlp := klt hp_0
  have hla := klt ha_0
  have hlb := klt hb_0
  have hlq := klt hq_0
  have hlr := klt hr_0
  have hls := klt hs_0
  have hnp0 : ¬ (wo.heap.size = w.heap.size) := by omega
  have hnp1 : ¬ (wo.heap.size = w.heap.size + 1) := by omega
  have hkp1 : wo.heap.size < w.heap.size + 1 := by omega
  have hnp2 : ¬ (wo.heap.size = w.heap.size + 1 + 1) := by omega
  have hkp2 : wo.heap.size < w.heap.size + 1 + 1 := by omega
  have hna0 : ¬ (wo.heap.size + 1 = w.heap.size) := by omega
  have hka1 : wo.heap.size < w.heap.size := by omega
  have hnb0 : ¬ (wo.heap.size + 1 + 1 = w.heap.size) := by omega
  have hkb1 : wo.heap.size + 1 < w.heap.size := by omega
  have hnq0 : ¬ (w1.heap.size = w.heap.size) := by omega
  have hnq1 : ¬ (w1.heap.size = w.heap.size + 1) := by omega
  have hkq1 : w1.heap.size < w.heap.size + 1 := by omega
  have hnq2 : ¬ (w1.heap.size = w.heap.size + 1 + 1) := by omega
  have hkq2 : w1.heap.size < w.heap.size + 1 + 1 := by omega
  have hnr0 : ¬ (w2.heap.size = w.heap.size) := by omega
  have hnr1 : ¬ (w2.heap.size = w.heap.size + 1) := by omega
  have hkr1 : w2.heap.size < w.heap.size + 1 := by omega
  have hnr2 : ¬ (w2.heap.size = w.heap.size + 1 + 1) := by omega
  have hkr2 : w2.heap.size < w.heap.size + 1 + 1 := by omega
  have hns0 : ¬ (bs = w.heap.size) := by omega
  have hns1 : ¬ (bs = w.heap.size + 1) := by omega
  have hks1 : bs < w.heap.size + 1 := by omega
  have hns2 : ¬ (bs = w.heap.size + 1 + 1) := by omega
  have hks2 : bs < w.heap.size + 1 + 1 := by omega
  go_loopw [10] (fun i wr => ∃ k : Nat, k ≤ 8 ∧ i = .int .i64 k ∧ Below w.heap.size w wr) (fun i _ => 8 - (intOf i).toNat)
  case atStart => exact ⟨0, by omega, rfl, Below.refl _ _⟩
  case round =>
    obtain ⟨k, hk, rfl, hbb⟩ := hrel
    by_cases hlt : k < 8
    · have T : wr.cell? ⟨wo.heap.size, 0, none⟩ = some (B8 x) ∧ wr.cell? ⟨wo.heap.size, 1, none⟩ = some (B8 t) ∧ wr.cell? ⟨wo.heap.size + 1, 0, none⟩ = some (.int .i64 xi) ∧ wr.cell? ⟨wo.heap.size + 1, 1, none⟩ = some (.bool xv) ∧ wr.cell? ⟨wo.heap.size + 1, 2, none⟩ = some (.bool xs) ∧ wr.cell? ⟨w1.heap.size, 0, none⟩ = some (B8 Q) ∧ wr.cell? ⟨w1.heap.size, 1, none⟩ = some (B8 QT) ∧ Below w.heap.size w wr := ⟨kc hbb hp_0, kc hbb hp_1, kc hbb ha_0, kc hbb ha_1, kc hbb ha_2, kc hbb hq_0, kc hbb hq_1, hbb⟩
      clear hp_0 hp_1 ha_0 ha_1 ha_2 hb_0 hb_1 hb_2 hq_0 hq_1 hr_0 hr_1 hs_0 hs_1 hB hsz hlp hla hlb hlq hlr hls hnp0 hnp1 hkp1 hnp2 hkp2 hna0 hka1 hnb0 hkb1 hnq0 hnq1 hkq1 hnq2 hkq2 hnr0 hnr1 hkr1 hnr2 hkr2 hns0 hns1 hks1 hns2 hks2
      obtain ⟨hp_0, hp_1, ha_0, ha_1, ha_2, hq_0, hq_1, hB⟩ := T
      have hsz := hB.size
      have hlp := klt hp_0
      have hla := klt ha_0
      have hlq := klt hq_0
      have hnp0 : ¬ (wo.heap.size = wr.heap.size) := by omega
      have hnp1 : ¬ (wo.heap.size = wr.heap.size + 1) := by omega
      have hkp1 : wo.heap.size < wr.heap.size + 1 := by omega
      have hnp2 : ¬ (wo.heap.size = wr.heap.size + 1 + 1) := by omega
      have hkp2 : wo.heap.size < wr.heap.size + 1 + 1 := by omega
      have hna0 : ¬ (wo.heap.size + 1 = wr.heap.size) := by omega
      have hka1 : wo.heap.size < wr.heap.size := by omega
      have hnq0 : ¬ (w1.heap.size = wr.heap.size) := by omega
      have hnq1 : ¬ (w1.heap.size = wr.heap.size + 1) := by omega
      have hkq1 : w1.heap.size < wr.heap.size + 1 := by omega
      have hnq2 : ¬ (w1.heap.size = wr.heap.size + 1 + 1) := by omega
      have hkq2 : w1.heap.size < wr.heap.size + 1 + 1 := by omega
      go_wp2_with fail
      ((with_reducible refine (get_i x t k _).mono ?_); rintro _ w4 ⟨rfl, hb⟩)
      have T : w4.cell? ⟨wo.heap.size, 0, none⟩ = some (B8 x) ∧ w4.cell? ⟨wo.heap.size, 1, none⟩ = some (B8 t) ∧ w4.cell? ⟨wo.heap.size + 1, 0, none⟩ = some (.int .i64 xi) ∧ w4.cell? ⟨wo.heap.size + 1, 1, none⟩ = some (.bool xv) ∧ w4.cell? ⟨wo.heap.size + 1, 2, none⟩ = some (.bool xs) ∧ w4.cell? ⟨w1.heap.size, 0, none⟩ = some (B8 Q) ∧ w4.cell? ⟨w1.heap.size, 1, none⟩ = some (B8 QT) := by
          refine ⟨?_, ?_, ?_, ?_, ?_, ?_, ?_⟩ <;> refine kc hb ?_ <;> (go_simp; first | done | rfl)
      have hz := hb.size
      (try simp only [World.size_alloc, World.size_setCell, World.size_drew] at hz)
      have hlp' : wo.heap.size < w4.heap.size := by omega
      have hla' : wo.heap.size + 1 < w4.heap.size := by omega
      have hlq' : w1.heap.size < w4.heap.size := by omega
      have hB' : Below w.heap.size w w4 := by
          refine kb ?_ hb
          go_grown
      clear hp_0 hp_1 ha_0 ha_1 ha_2 hq_0 hq_1 hB hsz hlp hla hlq hnp0 hnp1 hkp1 hnp2 hkp2 hna0 hka1 hnq0 hnq1 hkq1 hnq2 hkq2
      clear hb hz
      obtain ⟨hp_0, hp_1, ha_0, ha_1, ha_2, hq_0, hq_1⟩ := T
      have hlp := hlp'; clear hlp'
      have hla := hla'; clear hla'
      have hlq := hlq'; clear hlq'
      have hnp0 : ¬ (wo.heap.size = w4.heap.size) := by omega
      have hnp1 : ¬ (wo.heap.size = w4.heap.size + 1) := by omega
      have hkp1 : wo.heap.size < w4.heap.size + 1 := by omega
      have hnp2 : ¬ (wo.heap.size = w4.heap.size + 1 + 1) := by omega
      have hkp2 : wo.heap.size < w4.heap.size + 1 + 1 := by omega
      have hna0 : ¬ (wo.heap.size + 1 = w4.heap.size) := by omega
      have hka1 : wo.heap.size < w4.heap.size := by omega
      have hnq0 : ¬ (w1.heap.size = w4.heap.size) := by omega
      have hnq1 : ¬ (w1.heap.size = w4.heap.size + 1) := by omega
      have hkq1 : w1.heap.size < w4.heap.size + 1 := by omega
      have hnq2 : ¬ (w1.heap.size = w4.heap.size + 1 + 1) := by omega
      have hkq2 : w1.heap.size < w4.heap.size + 1 + 1 := by omega
      have hB := hB'; clear hB'
      have hsz := hB.size
      by_cases e : (k : Int) = xi
      · have E := HX.out k hlt e
        have Hk : ∀ w, Calls Tryd.prog 8 #[TB Q QT, .int .i64 k] w fun e w' => e = .returned (TBit xv xs) ∧ Below w.heap.size w w' := fun w => by
          have := get_i Q QT k w
          rw [E.1, E.2] at this
          exact this
        have HH := Lib.hid Hk
        have b1 : ((k : Int) == xi) = true := by rw [beq_iff_eq]; exact e
        clear E Hk e
        go_wp2_with fail
        refine wp_region_plan (fun w' => w'.cell? ⟨w1.heap.size, 0, none⟩ = some (B8 Q) ∧ w'.cell? ⟨w1.heap.size, 1, none⟩ = some (B8 QT) ∧ w'.cell? ⟨w4.heap.size, 0, none⟩ = some (.bool xv) ∧ w'.cell? ⟨w4.heap.size, 1, none⟩ = some (.bool xs) ∧ Below w.heap.size w w') (by kernel_rfl) (by kernel_rfl) (by kernel_rfl) ?_ ?_
        · (try dsimp only)
          refine ⟨?_, ?_, ?_, ?_, ?_⟩ <;> first | (go_simp; done) | (simp [*]; done) | go_grown
        repeat (first
          | (refine Plan.val (v := ?_) ?_ ?_ ?_; rotate_left; (· rfl); (· (intro W hSw; (try dsimp only at hSw); go_simp; all_goals (first | (with_reducible rfl) | (constructor <;> (with_reducible rfl))))); (try simp only [Act.put, List.setIfInBounds_toArray, List.set_cons_zero, List.set_cons_succ]))
          | (refine Plan.no ?_ ?_; (· rfl); (try simp only [Act.put, List.setIfInBounds_toArray, List.set_cons_zero, List.set_cons_succ]))
          | (refine Plan.call (v := ?_) (f := ?_) (args := ?_) ?_ ?_ ?_ ?_; rotate_left 3; (· rfl); (· (intro W hSw; (try dsimp only at hSw); go_simp; all_goals (first | (with_reducible rfl) | (constructor <;> (with_reducible rfl))))); (· (intro W hSw; (try dsimp only at hSw); first | (go_at_call 8; ((with_reducible refine (HH.out _).mono ?_); rintro _ wz ⟨rfl, hb⟩; (refine ⟨?_, ?_⟩; (· with_reducible rfl); exact ⟨kc hb hSw.1, kc hb hSw.2.1, kc hb hSw.2.2.1, kc hb hSw.2.2.2.1, kb hSw.2.2.2.2 hb⟩))))); (try simp only [Act.put, List.setIfInBounds_toArray, List.set_cons_zero, List.set_cons_succ])))
        refine Plan.done ?_
        intro w6 T
        (try dsimp only at T)
        clear hp_0 hp_1 ha_0 ha_1 ha_2 hq_0 hq_1 hlp hla hlq hnp0 hnp1 hkp1 hnp2 hkp2 hna0 hka1 hnq0 hnq1 hkq1 hnq2 hkq2 hB hsz
        obtain ⟨hq_0, hq_1, hm1_0, hm1_1, hB⟩ := T
        have hsz := hB.size
        have hlq := klt hq_0
        have hlm1 := klt hm1_0
        have hnq0 : ¬ (w1.heap.size = w6.heap.size) := by omega
        have hnq1 : ¬ (w1.heap.size = w6.heap.size + 1) := by omega
        have hkq1 : w1.heap.size < w6.heap.size + 1 := by omega
        have hnq2 : ¬ (w1.heap.size = w6.heap.size + 1 + 1) := by omega
        have hkq2 : w1.heap.size < w6.heap.size + 1 + 1 := by omega
        have hnm10 : ¬ (w4.heap.size = w6.heap.size) := by omega
        have hnm11 : ¬ (w4.heap.size = w6.heap.size + 1) := by omega
        have hkm11 : w4.heap.size < w6.heap.size + 1 := by omega
        have hnm12 : ¬ (w4.heap.size = w6.heap.size + 1 + 1) := by omega
        have hkm12 : w4.heap.size < w6.heap.size + 1 + 1 := by omega
        go_wp2
        go_roundw
        case rel => exact ⟨k + 1, by omega, by go_num, hB⟩
        case measure => simp [intOf]; omega
      · have E := HK.out k hlt e
        have Hk : ∀ w, Calls Tryd.prog 8 #[TB Q QT, .int .i64 k] w fun e w' => e = .returned (TBit (getI x k) (getI t k)) ∧ Below w.heap.size w w' := fun w => by
          have := get_i Q QT k w
          rw [E.1, E.2] at this
          exact this
        have HH := Lib.hid Hk
        have b1 : ((k : Int) == xi) = false := by rw [beq_eq_false_iff_ne]; exact e
        clear E Hk e
        go_wp2_with fail
        refine wp_region_plan (fun w' => w'.cell? ⟨w1.heap.size, 0, none⟩ = some (B8 Q) ∧ w'.cell? ⟨w1.heap.size, 1, none⟩ = some (B8 QT) ∧ w'.cell? ⟨w4.heap.size, 0, none⟩ = some (.bool (getI x k)) ∧ w'.cell? ⟨w4.heap.size, 1, none⟩ = some (.bool (getI t k)) ∧ Below w.heap.size w w') (by kernel_rfl) (by kernel_rfl) (by kernel_rfl) ?_ ?_
        · (try dsimp only)
          refine ⟨?_, ?_, ?_, ?_, ?_⟩ <;> first | (go_simp; done) | (simp [*]; done) | go_grown
        repeat (first
          | (refine Plan.val (v := ?_) ?_ ?_ ?_; rotate_left; (· rfl); (· (intro W hSw; (try dsimp only at hSw); go_simp; all_goals (first | (with_reducible rfl) | (constructor <;> (with_reducible rfl))))); (try simp only [Act.put, List.setIfInBounds_toArray, List.set_cons_zero, List.set_cons_succ]))
          | (refine Plan.no ?_ ?_; (· rfl); (try simp only [Act.put, List.setIfInBounds_toArray, List.set_cons_zero, List.set_cons_succ]))
          | (refine Plan.call (v := ?_) (f := ?_) (args := ?_) ?_ ?_ ?_ ?_; rotate_left 3; (· rfl); (· (intro W hSw; (try dsimp only at hSw); go_simp; all_goals (first | (with_reducible rfl) | (constructor <;> (with_reducible rfl))))); (· (intro W hSw; (try dsimp only at hSw); first | (go_at_call 8; ((with_reducible refine (HH.out _).mono ?_); rintro _ wz ⟨rfl, hb⟩; (refine ⟨?_, ?_⟩; (· with_reducible rfl); exact ⟨kc hb hSw.1, kc hb hSw.2.1, kc hb hSw.2.2.1, kc hb hSw.2.2.2.1, kb hSw.2.2.2.2 hb⟩))))); (try simp only [Act.put, List.setIfInBounds_toArray, List.set_cons_zero, List.set_cons_succ])))
        refine Plan.done ?_
        intro w6 T
        (try dsimp only at T)
        clear hp_0 hp_1 ha_0 ha_1 ha_2 hq_0 hq_1 hlp hla hlq hnp0 hnp1 hkp1 hnp2 hkp2 hna0 hka1 hnq0 hnq1 hkq1 hnq2 hkq2 hB hsz
        obtain ⟨hq_0, hq_1, hm_0, hm_1, hB⟩ := T
        have hsz := hB.size
        have hlq := klt hq_0
        have hlm := klt hm_0
        have hnq0 : ¬ (w1.heap.size = w6.heap.size) := by omega
        have hnq1 : ¬ (w1.heap.size = w6.heap.size + 1) := by omega
        have hkq1 : w1.heap.size < w6.heap.size + 1 := by omega
        have hnq2 : ¬ (w1.heap.size = w6.heap.size + 1 + 1) := by omega
        have hkq2 : w1.heap.size < w6.heap.size + 1 + 1 := by omega
        have hnm0 : ¬ (w4.heap.size = w6.heap.size) := by omega
        have hnm1 : ¬ (w4.heap.size = w6.heap.size + 1) := by omega
        have hkm1 : w4.heap.size < w6.heap.size + 1 := by omega
        have hnm2 : ¬ (w4.heap.size = w6.heap.size + 1 + 1) := by omega
        have hkm2 : w4.heap.size < w6.heap.size + 1 + 1 := by omega
        go_wp2
        go_roundw
        case rel => exact ⟨k + 1, by omega, by go_num, hB⟩
        case measure => simp [intOf]; omega
    · have hk8 : k = 8 := by omega
      subst hk8
      have T0 := Lib.hid (show wr.cell? ⟨wo.heap.size, 0, none⟩ = some (B8 x) ∧ wr.cell? ⟨wo.heap.size, 1, none⟩ = some (B8 t) ∧ wr.cell? ⟨wo.heap.size + 1, 0, none⟩ = some (.int .i64 xi) ∧ wr.cell? ⟨wo.heap.size + 1, 1, none⟩ = some (.bool xv) ∧ wr.cell? ⟨wo.heap.size + 1, 2, none⟩ = some (.bool xs) ∧
        wr.cell? ⟨wo.heap.size + 1 + 1, 0, none⟩ = some (.int .i64 yi) ∧ wr.cell? ⟨wo.heap.size + 1 + 1, 1, none⟩ = some (.bool yv) ∧ wr.cell? ⟨wo.heap.size + 1 + 1, 2, none⟩ = some (.bool ys) ∧ wr.cell? ⟨w1.heap.size, 0, none⟩ = some (B8 Q) ∧ wr.cell? ⟨w1.heap.size, 1, none⟩ = some (B8 QT) ∧
        wr.cell? ⟨w2.heap.size, 0, none⟩ = some (B8 R) ∧ wr.cell? ⟨w2.heap.size, 1, none⟩ = some (B8 RT) ∧ wr.cell? ⟨bs, 0, none⟩ = some (B8 S) ∧ wr.cell? ⟨bs, 1, none⟩ = some (B8 ST) from
        ⟨kc hbb hp_0, kc hbb hp_1, kc hbb ha_0, kc hbb ha_1, kc hbb ha_2, kc hbb hb_0, kc hbb hb_1, kc hbb hb_2, kc hbb hq_0, kc hbb hq_1, kc hbb hr_0, kc hbb hr_1, kc hbb hs_0, kc hbb hs_1⟩)
      have hcase : (S = R ∧ ST = RT) ∨ ((xi == yi) = true ∧ (u8 R == u8 S) = false) ∨ ((xi == yi) = true ∧ S = R ∧ (u8 RT == u8 ST) = false) := by
        by_cases h1 : S = R
        · by_cases h2 : ST = RT
          · exact .inl ⟨h1, h2⟩
          · refine .inr (.inr ⟨?_, h1, ?_⟩)
            · rcases HN.out with h | h
              · rw [beq_iff_eq]; exact h
              · exact absurd h.2 h2
            · rw [u8_beq, beq_eq_false_iff_ne]; exact fun h => h2 h.symm
        · refine .inr (.inl ⟨?_, ?_⟩)
          · rcases HN.out with h | h
            · rw [beq_iff_eq]; exact h
            · exact absurd h.1 h1
          · rw [u8_beq, beq_eq_false_iff_ne]; exact fun h => h1 h.symm
      have hplace : (0 ≤ xi ∧ xi < 8) ∨ (decide (0 ≤ xi) = false ∧ Q = x ∧ QT = t) ∨ ((0 ≤ xi ∧ decide (xi < 8) = false) ∧ Q = x ∧ QT = t) := by
        rcases HO.out with h | h
        · exact .inl h
        · by_cases h0 : xi < 0
          · exact .inr (.inl ⟨decide_eq_false (by omega), h⟩)
          · by_cases h8 : xi < 8
            · exact .inl ⟨by omega, h8⟩
            · exact .inr (.inr ⟨⟨by omega, decide_eq_false (by omega)⟩, h⟩)
      rcases hcase with ⟨e1, e2⟩ | ⟨e0, e1⟩ | ⟨e0, e1, e2⟩
      · rcases hplace with ⟨h0, h8⟩ | ⟨h0, hQ1, hQ2⟩ | ⟨⟨h0, h8⟩, hQ1, hQ2⟩
        · have _g := hbb
          have TT := T0.out
          rw [e1, e2] at TT
          obtain ⟨t0, t1, t2, t3, t4, t5, t6, t7, t8, t9, t10, t11, t12, t13⟩ := TT
          have T : wr.cell? ⟨wo.heap.size, 0, none⟩ = some (B8 x) ∧ wr.cell? ⟨wo.heap.size, 1, none⟩ = some (B8 t) ∧ wr.cell? ⟨wo.heap.size + 1, 0, none⟩ = some (.int .i64 xi) ∧ wr.cell? ⟨wo.heap.size + 1, 1, none⟩ = some (.bool xv) ∧ wr.cell? ⟨wo.heap.size + 1, 2, none⟩ = some (.bool xs) ∧ wr.cell? ⟨wo.heap.size + 1 + 1, 0, none⟩ = some (.int .i64 yi) ∧ wr.cell? ⟨wo.heap.size + 1 + 1, 1, none⟩ = some (.bool yv) ∧ wr.cell? ⟨wo.heap.size + 1 + 1, 2, none⟩ = some (.bool ys) ∧ wr.cell? ⟨w1.heap.size, 0, none⟩ = some (B8 Q) ∧ wr.cell? ⟨w1.heap.size, 1, none⟩ = some (B8 QT) ∧ wr.cell? ⟨w2.heap.size, 0, none⟩ = some (B8 R) ∧ wr.cell? ⟨w2.heap.size, 1, none⟩ = some (B8 RT) ∧ wr.cell? ⟨bs, 0, none⟩ = some (B8 R) ∧ wr.cell? ⟨bs, 1, none⟩ = some (B8 RT) ∧ Below w.heap.size w wr := ⟨t0, t1, t2, t3, t4, t5, t6, t7, t8, t9, t10, t11, t12, t13, hbb⟩
          clear t0 t1 t2 t3 t4 t5 t6 t7 t8 t9 t10 t11 t12 t13 T0
          clear hp_0 hp_1 ha_0 ha_1 ha_2 hb_0 hb_1 hb_2 hq_0 hq_1 hr_0 hr_1 hs_0 hs_1 hB hsz hlp hla hlb hlq hlr hls hnp0 hnp1 hkp1 hnp2 hkp2 hna0 hka1 hnb0 hkb1 hnq0 hnq1 hkq1 hnq2 hkq2 hnr0 hnr1 hkr1 hnr2 hkr2 hns0 hns1 hks1 hns2 hks2
          obtain ⟨hp_0, hp_1, ha_0, ha_1, ha_2, hb_0, hb_1, hb_2, hq_0, hq_1, hr_0, hr_1, hs1_0, hs1_1, hB⟩ := T
          have hsz := hB.size
          have hlp := klt hp_0
          have hla := klt ha_0
          have hlb := klt hb_0
          have hlq := klt hq_0
          have hlr := klt hr_0
          have hls1 := klt hs1_0
          have hnp0 : ¬ (wo.heap.size = wr.heap.size) := by omega
          have hnp1 : ¬ (wo.heap.size = wr.heap.size + 1) := by omega
          have hkp1 : wo.heap.size < wr.heap.size + 1 := by omega
          have hnp2 : ¬ (wo.heap.size = wr.heap.size + 1 + 1) := by omega
          have hkp2 : wo.heap.size < wr.heap.size + 1 + 1 := by omega
          have hna0 : ¬ (wo.heap.size + 1 = wr.heap.size) := by omega
          have hka1 : wo.heap.size < wr.heap.size := by omega
          have hnb0 : ¬ (wo.heap.size + 1 + 1 = wr.heap.size) := by omega
          have hkb1 : wo.heap.size + 1 < wr.heap.size := by omega
          have hnq0 : ¬ (w1.heap.size = wr.heap.size) := by omega
          have hnq1 : ¬ (w1.heap.size = wr.heap.size + 1) := by omega
          have hkq1 : w1.heap.size < wr.heap.size + 1 := by omega
          have hnq2 : ¬ (w1.heap.size = wr.heap.size + 1 + 1) := by omega
          have hkq2 : w1.heap.size < wr.heap.size + 1 + 1 := by omega
          have hnr0 : ¬ (w2.heap.size = wr.heap.size) := by omega
          have hnr1 : ¬ (w2.heap.size = wr.heap.size + 1) := by omega
          have hkr1 : w2.heap.size < wr.heap.size + 1 := by omega
          have hnr2 : ¬ (w2.heap.size = wr.heap.size + 1 + 1) := by omega
          have hkr2 : w2.heap.size < wr.heap.size + 1 + 1 := by omega
          have hns10 : ¬ (bs = wr.heap.size) := by omega
          have hns11 : ¬ (bs = wr.heap.size + 1) := by omega
          have hks11 : bs < wr.heap.size + 1 := by omega
          have hns12 : ¬ (bs = wr.heap.size + 1 + 1) := by omega
          have hks12 : bs < wr.heap.size + 1 + 1 := by omega
          go_wp2_with fail
          refine wp_region_plan (fun w' => w'.cell? ⟨wo.heap.size, 0, none⟩ = some (B8 x) ∧ w'.cell? ⟨wo.heap.size, 1, none⟩ = some (B8 t) ∧ w'.cell? ⟨wo.heap.size + 1, 0, none⟩ = some (.int .i64 xi) ∧ w'.cell? ⟨wo.heap.size + 1, 1, none⟩ = some (.bool xv) ∧ w'.cell? ⟨wo.heap.size + 1, 2, none⟩ = some (.bool xs) ∧ w'.cell? ⟨wo.heap.size + 1 + 1, 0, none⟩ = some (.int .i64 yi) ∧ w'.cell? ⟨wo.heap.size + 1 + 1, 1, none⟩ = some (.bool yv) ∧ w'.cell? ⟨wo.heap.size + 1 + 1, 2, none⟩ = some (.bool ys) ∧ w'.cell? ⟨w1.heap.size, 0, none⟩ = some (B8 Q) ∧ w'.cell? ⟨w1.heap.size, 1, none⟩ = some (B8 QT) ∧ w'.cell? ⟨w2.heap.size, 0, none⟩ = some (B8 R) ∧ w'.cell? ⟨w2.heap.size, 1, none⟩ = some (B8 RT) ∧ w'.cell? ⟨bs, 0, none⟩ = some (B8 R) ∧ w'.cell? ⟨bs, 1, none⟩ = some (B8 RT) ∧ Below w.heap.size w w') (by kernel_rfl) (by kernel_rfl) (by kernel_rfl) ?_ ?_
          · (try dsimp only)
            refine ⟨?_, ?_, ?_, ?_, ?_, ?_, ?_, ?_, ?_, ?_, ?_, ?_, ?_, ?_, ?_⟩ <;> first | (go_simp; done) | (simp [*]; done) | go_grown
          repeat (first
            | (refine Plan.val (v := ?_) ?_ ?_ ?_; rotate_left; (· rfl); (· (intro W hSw; (try dsimp only at hSw); go_simp; all_goals (first | (with_reducible rfl) | (constructor <;> (with_reducible rfl))))); (try simp only [Act.put, List.setIfInBounds_toArray, List.set_cons_zero, List.set_cons_succ]))
            | (refine Plan.no ?_ ?_; (· rfl); (try simp only [Act.put, List.setIfInBounds_toArray, List.set_cons_zero, List.set_cons_succ]))
            | (refine Plan.call (v := ?_) (f := ?_) (args := ?_) ?_ ?_ ?_ ?_; rotate_left 3; (· rfl); (· (intro W hSw; (try dsimp only at hSw); go_simp; all_goals (first | (with_reducible rfl) | (constructor <;> (with_reducible rfl))))); (· (intro W hSw; (try dsimp only at hSw); first | (go_at_call 8; ((with_reducible refine (H5.out _).mono ?_); rintro _ wz ⟨rfl, hb⟩; (refine ⟨?_, ?_⟩; (· with_reducible rfl); exact ⟨kc hb hSw.1, kc hb hSw.2.1, kc hb hSw.2.2.1, kc hb hSw.2.2.2.1, kc hb hSw.2.2.2.2.1, kc hb hSw.2.2.2.2.2.1, kc hb hSw.2.2.2.2.2.2.1, kc hb hSw.2.2.2.2.2.2.2.1, kc hb hSw.2.2.2.2.2.2.2.2.1, kc hb hSw.2.2.2.2.2.2.2.2.2.1, kc hb hSw.2.2.2.2.2.2.2.2.2.2.1, kc hb hSw.2.2.2.2.2.2.2.2.2.2.2.1, kc hb hSw.2.2.2.2.2.2.2.2.2.2.2.2.1, kc hb hSw.2.2.2.2.2.2.2.2.2.2.2.2.2.1, kb hSw.2.2.2.2.2.2.2.2.2.2.2.2.2.2 hb⟩))) | (go_at_call 10; ((with_reducible refine (H6.out _).mono ?_); rintro _ wz ⟨rfl, hb⟩; (refine ⟨?_, ?_⟩; (· with_reducible rfl); exact ⟨kc hb hSw.1, kc hb hSw.2.1, kc hb hSw.2.2.1, kc hb hSw.2.2.2.1, kc hb hSw.2.2.2.2.1, kc hb hSw.2.2.2.2.2.1, kc hb hSw.2.2.2.2.2.2.1, kc hb hSw.2.2.2.2.2.2.2.1, kc hb hSw.2.2.2.2.2.2.2.2.1, kc hb hSw.2.2.2.2.2.2.2.2.2.1, kc hb hSw.2.2.2.2.2.2.2.2.2.2.1, kc hb hSw.2.2.2.2.2.2.2.2.2.2.2.1, kc hb hSw.2.2.2.2.2.2.2.2.2.2.2.2.1, kc hb hSw.2.2.2.2.2.2.2.2.2.2.2.2.2.1, kb hSw.2.2.2.2.2.2.2.2.2.2.2.2.2.2 hb⟩))) | (go_at_call 17; ((with_reducible refine (awake_c _).mono ?_); rintro _ wz ⟨rfl, hb⟩; (refine ⟨?_, ?_⟩; (· with_reducible rfl); exact ⟨kc hb hSw.1, kc hb hSw.2.1, kc hb hSw.2.2.1, kc hb hSw.2.2.2.1, kc hb hSw.2.2.2.2.1, kc hb hSw.2.2.2.2.2.1, kc hb hSw.2.2.2.2.2.2.1, kc hb hSw.2.2.2.2.2.2.2.1, kc hb hSw.2.2.2.2.2.2.2.2.1, kc hb hSw.2.2.2.2.2.2.2.2.2.1, kc hb hSw.2.2.2.2.2.2.2.2.2.2.1, kc hb hSw.2.2.2.2.2.2.2.2.2.2.2.1, kc hb hSw.2.2.2.2.2.2.2.2.2.2.2.2.1, kc hb hSw.2.2.2.2.2.2.2.2.2.2.2.2.2.1, kb hSw.2.2.2.2.2.2.2.2.2.2.2.2.2.2 hb⟩))))); (try simp only [Act.put, List.setIfInBounds_toArray, List.set_cons_zero, List.set_cons_succ])))
          refine Plan.done ?_
          intro wz T
          (try dsimp only at T)
          have hBe := T.2.2.2.2.2.2.2.2.2.2.2.2.2.2
          go_wp2
          go_ret
          exact ⟨rfl, hBo.trans (hBe.mono hso)⟩
        · have _g := hbb
          have TT := T0.out
          rw [e1, e2] at TT
          have h6 := H6.out
          rw [hQ1, hQ2] at TT h6
          have HH := Lib.hid h6
          clear h6
          obtain ⟨t0, t1, t2, t3, t4, t5, t6, t7, t8, t9, t10, t11, t12, t13⟩ := TT
          have T : wr.cell? ⟨wo.heap.size, 0, none⟩ = some (B8 x) ∧ wr.cell? ⟨wo.heap.size, 1, none⟩ = some (B8 t) ∧ wr.cell? ⟨wo.heap.size + 1, 0, none⟩ = some (.int .i64 xi) ∧ wr.cell? ⟨wo.heap.size + 1, 1, none⟩ = some (.bool xv) ∧ wr.cell? ⟨wo.heap.size + 1, 2, none⟩ = some (.bool xs) ∧ wr.cell? ⟨wo.heap.size + 1 + 1, 0, none⟩ = some (.int .i64 yi) ∧ wr.cell? ⟨wo.heap.size + 1 + 1, 1, none⟩ = some (.bool yv) ∧ wr.cell? ⟨wo.heap.size + 1 + 1, 2, none⟩ = some (.bool ys) ∧ wr.cell? ⟨w1.heap.size, 0, none⟩ = some (B8 x) ∧ wr.cell? ⟨w1.heap.size, 1, none⟩ = some (B8 t) ∧ wr.cell? ⟨w2.heap.size, 0, none⟩ = some (B8 R) ∧ wr.cell? ⟨w2.heap.size, 1, none⟩ = some (B8 RT) ∧ wr.cell? ⟨bs, 0, none⟩ = some (B8 R) ∧ wr.cell? ⟨bs, 1, none⟩ = some (B8 RT) ∧ Below w.heap.size w wr := ⟨t0, t1, t2, t3, t4, t5, t6, t7, t8, t9, t10, t11, t12, t13, hbb⟩
          clear t0 t1 t2 t3 t4 t5 t6 t7 t8 t9 t10 t11 t12 t13 T0
          clear hp_0 hp_1 ha_0 ha_1 ha_2 hb_0 hb_1 hb_2 hq_0 hq_1 hr_0 hr_1 hs_0 hs_1 hB hsz hlp hla hlb hlq hlr hls hnp0 hnp1 hkp1 hnp2 hkp2 hna0 hka1 hnb0 hkb1 hnq0 hnq1 hkq1 hnq2 hkq2 hnr0 hnr1 hkr1 hnr2 hkr2 hns0 hns1 hks1 hns2 hks2
          obtain ⟨hp_0, hp_1, ha_0, ha_1, ha_2, hb_0, hb_1, hb_2, hq1_0, hq1_1, hr_0, hr_1, hs1_0, hs1_1, hB⟩ := T
          have hsz := hB.size
          have hlp := klt hp_0
          have hla := klt ha_0
          have hlb := klt hb_0
          have hlq1 := klt hq1_0
          have hlr := klt hr_0
          have hls1 := klt hs1_0
          have hnp0 : ¬ (wo.heap.size = wr.heap.size) := by omega
          have hnp1 : ¬ (wo.heap.size = wr.heap.size + 1) := by omega
          have hkp1 : wo.heap.size < wr.heap.size + 1 := by omega
          have hnp2 : ¬ (wo.heap.size = wr.heap.size + 1 + 1) := by omega
          have hkp2 : wo.heap.size < wr.heap.size + 1 + 1 := by omega
          have hna0 : ¬ (wo.heap.size + 1 = wr.heap.size) := by omega
          have hka1 : wo.heap.size < wr.heap.size := by omega
          have hnb0 : ¬ (wo.heap.size + 1 + 1 = wr.heap.size) := by omega
          have hkb1 : wo.heap.size + 1 < wr.heap.size := by omega
          have hnq10 : ¬ (w1.heap.size = wr.heap.size) := by omega
          have hnq11 : ¬ (w1.heap.size = wr.heap.size + 1) := by omega
          have hkq11 : w1.heap.size < wr.heap.size + 1 := by omega
          have hnq12 : ¬ (w1.heap.size = wr.heap.size + 1 + 1) := by omega
          have hkq12 : w1.heap.size < wr.heap.size + 1 + 1 := by omega
          have hnr0 : ¬ (w2.heap.size = wr.heap.size) := by omega
          have hnr1 : ¬ (w2.heap.size = wr.heap.size + 1) := by omega
          have hkr1 : w2.heap.size < wr.heap.size + 1 := by omega
          have hnr2 : ¬ (w2.heap.size = wr.heap.size + 1 + 1) := by omega
          have hkr2 : w2.heap.size < wr.heap.size + 1 + 1 := by omega
          have hns10 : ¬ (bs = wr.heap.size) := by omega
          have hns11 : ¬ (bs = wr.heap.size + 1) := by omega
          have hks11 : bs < wr.heap.size + 1 := by omega
          have hns12 : ¬ (bs = wr.heap.size + 1 + 1) := by omega
          have hks12 : bs < wr.heap.size + 1 + 1 := by omega
          go_wp2_with fail
          refine wp_region_plan (fun w' => w'.cell? ⟨wo.heap.size, 0, none⟩ = some (B8 x) ∧ w'.cell? ⟨wo.heap.size, 1, none⟩ = some (B8 t) ∧ w'.cell? ⟨wo.heap.size + 1, 0, none⟩ = some (.int .i64 xi) ∧ w'.cell? ⟨wo.heap.size + 1, 1, none⟩ = some (.bool xv) ∧ w'.cell? ⟨wo.heap.size + 1, 2, none⟩ = some (.bool xs) ∧ w'.cell? ⟨wo.heap.size + 1 + 1, 0, none⟩ = some (.int .i64 yi) ∧ w'.cell? ⟨wo.heap.size + 1 + 1, 1, none⟩ = some (.bool yv) ∧ w'.cell? ⟨wo.heap.size + 1 + 1, 2, none⟩ = some (.bool ys) ∧ w'.cell? ⟨w1.heap.size, 0, none⟩ = some (B8 x) ∧ w'.cell? ⟨w1.heap.size, 1, none⟩ = some (B8 t) ∧ w'.cell? ⟨w2.heap.size, 0, none⟩ = some (B8 R) ∧ w'.cell? ⟨w2.heap.size, 1, none⟩ = some (B8 RT) ∧ w'.cell? ⟨bs, 0, none⟩ = some (B8 R) ∧ w'.cell? ⟨bs, 1, none⟩ = some (B8 RT) ∧ Below w.heap.size w w') (by kernel_rfl) (by kernel_rfl) (by kernel_rfl) ?_ ?_
          · (try dsimp only)
            refine ⟨?_, ?_, ?_, ?_, ?_, ?_, ?_, ?_, ?_, ?_, ?_, ?_, ?_, ?_, ?_⟩ <;> first | (go_simp; done) | (simp [*]; done) | go_grown
          repeat (first
            | (refine Plan.val (v := ?_) ?_ ?_ ?_; rotate_left; (· rfl); (· (intro W hSw; (try dsimp only at hSw); go_simp; all_goals (first | (with_reducible rfl) | (constructor <;> (with_reducible rfl))))); (try simp only [Act.put, List.setIfInBounds_toArray, List.set_cons_zero, List.set_cons_succ]))
            | (refine Plan.no ?_ ?_; (· rfl); (try simp only [Act.put, List.setIfInBounds_toArray, List.set_cons_zero, List.set_cons_succ]))
            | (refine Plan.call (v := ?_) (f := ?_) (args := ?_) ?_ ?_ ?_ ?_; rotate_left 3; (· rfl); (· (intro W hSw; (try dsimp only at hSw); go_simp; all_goals (first | (with_reducible rfl) | (constructor <;> (with_reducible rfl))))); (· (intro W hSw; (try dsimp only at hSw); first | (go_at_call 8; ((with_reducible refine (H5.out _).mono ?_); rintro _ wz ⟨rfl, hb⟩; (refine ⟨?_, ?_⟩; (· with_reducible rfl); exact ⟨kc hb hSw.1, kc hb hSw.2.1, kc hb hSw.2.2.1, kc hb hSw.2.2.2.1, kc hb hSw.2.2.2.2.1, kc hb hSw.2.2.2.2.2.1, kc hb hSw.2.2.2.2.2.2.1, kc hb hSw.2.2.2.2.2.2.2.1, kc hb hSw.2.2.2.2.2.2.2.2.1, kc hb hSw.2.2.2.2.2.2.2.2.2.1, kc hb hSw.2.2.2.2.2.2.2.2.2.2.1, kc hb hSw.2.2.2.2.2.2.2.2.2.2.2.1, kc hb hSw.2.2.2.2.2.2.2.2.2.2.2.2.1, kc hb hSw.2.2.2.2.2.2.2.2.2.2.2.2.2.1, kb hSw.2.2.2.2.2.2.2.2.2.2.2.2.2.2 hb⟩))) | (go_at_call 10; ((with_reducible refine (HH.out _).mono ?_); rintro _ wz ⟨rfl, hb⟩; (refine ⟨?_, ?_⟩; (· with_reducible rfl); exact ⟨kc hb hSw.1, kc hb hSw.2.1, kc hb hSw.2.2.1, kc hb hSw.2.2.2.1, kc hb hSw.2.2.2.2.1, kc hb hSw.2.2.2.2.2.1, kc hb hSw.2.2.2.2.2.2.1, kc hb hSw.2.2.2.2.2.2.2.1, kc hb hSw.2.2.2.2.2.2.2.2.1, kc hb hSw.2.2.2.2.2.2.2.2.2.1, kc hb hSw.2.2.2.2.2.2.2.2.2.2.1, kc hb hSw.2.2.2.2.2.2.2.2.2.2.2.1, kc hb hSw.2.2.2.2.2.2.2.2.2.2.2.2.1, kc hb hSw.2.2.2.2.2.2.2.2.2.2.2.2.2.1, kb hSw.2.2.2.2.2.2.2.2.2.2.2.2.2.2 hb⟩))) | (go_at_call 17; ((with_reducible refine (awake_c _).mono ?_); rintro _ wz ⟨rfl, hb⟩; (refine ⟨?_, ?_⟩; (· with_reducible rfl); exact ⟨kc hb hSw.1, kc hb hSw.2.1, kc hb hSw.2.2.1, kc hb hSw.2.2.2.1, kc hb hSw.2.2.2.2.1, kc hb hSw.2.2.2.2.2.1, kc hb hSw.2.2.2.2.2.2.1, kc hb hSw.2.2.2.2.2.2.2.1, kc hb hSw.2.2.2.2.2.2.2.2.1, kc hb hSw.2.2.2.2.2.2.2.2.2.1, kc hb hSw.2.2.2.2.2.2.2.2.2.2.1, kc hb hSw.2.2.2.2.2.2.2.2.2.2.2.1, kc hb hSw.2.2.2.2.2.2.2.2.2.2.2.2.1, kc hb hSw.2.2.2.2.2.2.2.2.2.2.2.2.2.1, kb hSw.2.2.2.2.2.2.2.2.2.2.2.2.2.2 hb⟩))))); (try simp only [Act.put, List.setIfInBounds_toArray, List.set_cons_zero, List.set_cons_succ])))
          refine Plan.done ?_
          intro wz T
          (try dsimp only at T)
          have hBe := T.2.2.2.2.2.2.2.2.2.2.2.2.2.2
          go_wp2
          go_ret
          exact ⟨rfl, hBo.trans (hBe.mono hso)⟩
        · have _g := hbb
          have TT := T0.out
          rw [e1, e2] at TT
          have h6 := H6.out
          rw [hQ1, hQ2] at TT h6
          have HH := Lib.hid h6
          clear h6
          obtain ⟨t0, t1, t2, t3, t4, t5, t6, t7, t8, t9, t10, t11, t12, t13⟩ := TT
          have T : wr.cell? ⟨wo.heap.size, 0, none⟩ = some (B8 x) ∧ wr.cell? ⟨wo.heap.size, 1, none⟩ = some (B8 t) ∧ wr.cell? ⟨wo.heap.size + 1, 0, none⟩ = some (.int .i64 xi) ∧ wr.cell? ⟨wo.heap.size + 1, 1, none⟩ = some (.bool xv) ∧ wr.cell? ⟨wo.heap.size + 1, 2, none⟩ = some (.bool xs) ∧ wr.cell? ⟨wo.heap.size + 1 + 1, 0, none⟩ = some (.int .i64 yi) ∧ wr.cell? ⟨wo.heap.size + 1 + 1, 1, none⟩ = some (.bool yv) ∧ wr.cell? ⟨wo.heap.size + 1 + 1, 2, none⟩ = some (.bool ys) ∧ wr.cell? ⟨w1.heap.size, 0, none⟩ = some (B8 x) ∧ wr.cell? ⟨w1.heap.size, 1, none⟩ = some (B8 t) ∧ wr.cell? ⟨w2.heap.size, 0, none⟩ = some (B8 R) ∧ wr.cell? ⟨w2.heap.size, 1, none⟩ = some (B8 RT) ∧ wr.cell? ⟨bs, 0, none⟩ = some (B8 R) ∧ wr.cell? ⟨bs, 1, none⟩ = some (B8 RT) ∧ Below w.heap.size w wr := ⟨t0, t1, t2, t3, t4, t5, t6, t7, t8, t9, t10, t11, t12, t13, hbb⟩
          clear t0 t1 t2 t3 t4 t5 t6 t7 t8 t9 t10 t11 t12 t13 T0
          clear hp_0 hp_1 ha_0 ha_1 ha_2 hb_0 hb_1 hb_2 hq_0 hq_1 hr_0 hr_1 hs_0 hs_1 hB hsz hlp hla hlb hlq hlr hls hnp0 hnp1 hkp1 hnp2 hkp2 hna0 hka1 hnb0 hkb1 hnq0 hnq1 hkq1 hnq2 hkq2 hnr0 hnr1 hkr1 hnr2 hkr2 hns0 hns1 hks1 hns2 hks2
          obtain ⟨hp_0, hp_1, ha_0, ha_1, ha_2, hb_0, hb_1, hb_2, hq1_0, hq1_1, hr_0, hr_1, hs1_0, hs1_1, hB⟩ := T
          have hsz := hB.size
          have hlp := klt hp_0
          have hla := klt ha_0
          have hlb := klt hb_0
          have hlq1 := klt hq1_0
          have hlr := klt hr_0
          have hls1 := klt hs1_0
          have hnp0 : ¬ (wo.heap.size = wr.heap.size) := by omega
          have hnp1 : ¬ (wo.heap.size = wr.heap.size + 1) := by omega
          have hkp1 : wo.heap.size < wr.heap.size + 1 := by omega
          have hnp2 : ¬ (wo.heap.size = wr.heap.size + 1 + 1) := by omega
          have hkp2 : wo.heap.size < wr.heap.size + 1 + 1 := by omega
          have hna0 : ¬ (wo.heap.size + 1 = wr.heap.size) := by omega
          have hka1 : wo.heap.size < wr.heap.size := by omega
          have hnb0 : ¬ (wo.heap.size + 1 + 1 = wr.heap.size) := by omega
          have hkb1 : wo.heap.size + 1 < wr.heap.size := by omega
          have hnq10 : ¬ (w1.heap.size = wr.heap.size) := by omega
          have hnq11 : ¬ (w1.heap.size = wr.heap.size + 1) := by omega
          have hkq11 : w1.heap.size < wr.heap.size + 1 := by omega
          have hnq12 : ¬ (w1.heap.size = wr.heap.size + 1 + 1) := by omega
          have hkq12 : w1.heap.size < wr.heap.size + 1 + 1 := by omega
          have hnr0 : ¬ (w2.heap.size = wr.heap.size) := by omega
          have hnr1 : ¬ (w2.heap.size = wr.heap.size + 1) := by omega
          have hkr1 : w2.heap.size < wr.heap.size + 1 := by omega
          have hnr2 : ¬ (w2.heap.size = wr.heap.size + 1 + 1) := by omega
          have hkr2 : w2.heap.size < wr.heap.size + 1 + 1 := by omega
          have hns10 : ¬ (bs = wr.heap.size) := by omega
          have hns11 : ¬ (bs = wr.heap.size + 1) := by omega
          have hks11 : bs < wr.heap.size + 1 := by omega
          have hns12 : ¬ (bs = wr.heap.size + 1 + 1) := by omega
          have hks12 : bs < wr.heap.size + 1 + 1 := by omega
          go_wp2_with fail
          refine wp_region_plan (fun w' => w'.cell? ⟨wo.heap.size, 0, none⟩ = some (B8 x) ∧ w'.cell? ⟨wo.heap.size, 1, none⟩ = some (B8 t) ∧ w'.cell? ⟨wo.heap.size + 1, 0, none⟩ = some (.int .i64 xi) ∧ w'.cell? ⟨wo.heap.size + 1, 1, none⟩ = some (.bool xv) ∧ w'.cell? ⟨wo.heap.size + 1, 2, none⟩ = some (.bool xs) ∧ w'.cell? ⟨wo.heap.size + 1 + 1, 0, none⟩ = some (.int .i64 yi) ∧ w'.cell? ⟨wo.heap.size + 1 + 1, 1, none⟩ = some (.bool yv) ∧ w'.cell? ⟨wo.heap.size + 1 + 1, 2, none⟩ = some (.bool ys) ∧ w'.cell? ⟨w1.heap.size, 0, none⟩ = some (B8 x) ∧ w'.cell? ⟨w1.heap.size, 1, none⟩ = some (B8 t) ∧ w'.cell? ⟨w2.heap.size, 0, none⟩ = some (B8 R) ∧ w'.cell? ⟨w2.heap.size, 1, none⟩ = some (B8 RT) ∧ w'.cell? ⟨bs, 0, none⟩ = some (B8 R) ∧ w'.cell? ⟨bs, 1, none⟩ = some (B8 RT) ∧ Below w.heap.size w w') (by kernel_rfl) (by kernel_rfl) (by kernel_rfl) ?_ ?_
          · (try dsimp only)
            refine ⟨?_, ?_, ?_, ?_, ?_, ?_, ?_, ?_, ?_, ?_, ?_, ?_, ?_, ?_, ?_⟩ <;> first | (go_simp; done) | (simp [*]; done) | go_grown
          repeat (first
            | (refine Plan.val (v := ?_) ?_ ?_ ?_; rotate_left; (· rfl); (· (intro W hSw; (try dsimp only at hSw); go_simp; all_goals (first | (with_reducible rfl) | (constructor <;> (with_reducible rfl))))); (try simp only [Act.put, List.setIfInBounds_toArray, List.set_cons_zero, List.set_cons_succ]))
            | (refine Plan.no ?_ ?_; (· rfl); (try simp only [Act.put, List.setIfInBounds_toArray, List.set_cons_zero, List.set_cons_succ]))
            | (refine Plan.call (v := ?_) (f := ?_) (args := ?_) ?_ ?_ ?_ ?_; rotate_left 3; (· rfl); (· (intro W hSw; (try dsimp only at hSw); go_simp; all_goals (first | (with_reducible rfl) | (constructor <;> (with_reducible rfl))))); (· (intro W hSw; (try dsimp only at hSw); first | (go_at_call 8; ((with_reducible refine (H5.out _).mono ?_); rintro _ wz ⟨rfl, hb⟩; (refine ⟨?_, ?_⟩; (· with_reducible rfl); exact ⟨kc hb hSw.1, kc hb hSw.2.1, kc hb hSw.2.2.1, kc hb hSw.2.2.2.1, kc hb hSw.2.2.2.2.1, kc hb hSw.2.2.2.2.2.1, kc hb hSw.2.2.2.2.2.2.1, kc hb hSw.2.2.2.2.2.2.2.1, kc hb hSw.2.2.2.2.2.2.2.2.1, kc hb hSw.2.2.2.2.2.2.2.2.2.1, kc hb hSw.2.2.2.2.2.2.2.2.2.2.1, kc hb hSw.2.2.2.2.2.2.2.2.2.2.2.1, kc hb hSw.2.2.2.2.2.2.2.2.2.2.2.2.1, kc hb hSw.2.2.2.2.2.2.2.2.2.2.2.2.2.1, kb hSw.2.2.2.2.2.2.2.2.2.2.2.2.2.2 hb⟩))) | (go_at_call 10; ((with_reducible refine (HH.out _).mono ?_); rintro _ wz ⟨rfl, hb⟩; (refine ⟨?_, ?_⟩; (· with_reducible rfl); exact ⟨kc hb hSw.1, kc hb hSw.2.1, kc hb hSw.2.2.1, kc hb hSw.2.2.2.1, kc hb hSw.2.2.2.2.1, kc hb hSw.2.2.2.2.2.1, kc hb hSw.2.2.2.2.2.2.1, kc hb hSw.2.2.2.2.2.2.2.1, kc hb hSw.2.2.2.2.2.2.2.2.1, kc hb hSw.2.2.2.2.2.2.2.2.2.1, kc hb hSw.2.2.2.2.2.2.2.2.2.2.1, kc hb hSw.2.2.2.2.2.2.2.2.2.2.2.1, kc hb hSw.2.2.2.2.2.2.2.2.2.2.2.2.1, kc hb hSw.2.2.2.2.2.2.2.2.2.2.2.2.2.1, kb hSw.2.2.2.2.2.2.2.2.2.2.2.2.2.2 hb⟩))) | (go_at_call 17; ((with_reducible refine (awake_c _).mono ?_); rintro _ wz ⟨rfl, hb⟩; (refine ⟨?_, ?_⟩; (· with_reducible rfl); exact ⟨kc hb hSw.1, kc hb hSw.2.1, kc hb hSw.2.2.1, kc hb hSw.2.2.2.1, kc hb hSw.2.2.2.2.1, kc hb hSw.2.2.2.2.2.1, kc hb hSw.2.2.2.2.2.2.1, kc hb hSw.2.2.2.2.2.2.2.1, kc hb hSw.2.2.2.2.2.2.2.2.1, kc hb hSw.2.2.2.2.2.2.2.2.2.1, kc hb hSw.2.2.2.2.2.2.2.2.2.2.1, kc hb hSw.2.2.2.2.2.2.2.2.2.2.2.1, kc hb hSw.2.2.2.2.2.2.2.2.2.2.2.2.1, kc hb hSw.2.2.2.2.2.2.2.2.2.2.2.2.2.1, kb hSw.2.2.2.2.2.2.2.2.2.2.2.2.2.2 hb⟩))))); (try simp only [Act.put, List.setIfInBounds_toArray, List.set_cons_zero, List.set_cons_succ])))
          refine Plan.done ?_
          intro wz T
          (try dsimp only at T)
          have hBe := T.2.2.2.2.2.2.2.2.2.2.2.2.2.2
          go_wp2
          go_ret
          exact ⟨rfl, hBo.trans (hBe.mono hso)⟩
      · rcases hplace with ⟨h0, h8⟩ | ⟨h0, hQ1, hQ2⟩ | ⟨⟨h0, h8⟩, hQ1, hQ2⟩
        · have _g := hbb
          have TT := T0.out
          obtain ⟨t0, t1, t2, t3, t4, t5, t6, t7, t8, t9, t10, t11, t12, t13⟩ := TT
          have T : wr.cell? ⟨wo.heap.size, 0, none⟩ = some (B8 x) ∧ wr.cell? ⟨wo.heap.size, 1, none⟩ = some (B8 t) ∧ wr.cell? ⟨wo.heap.size + 1, 0, none⟩ = some (.int .i64 xi) ∧ wr.cell? ⟨wo.heap.size + 1, 1, none⟩ = some (.bool xv) ∧ wr.cell? ⟨wo.heap.size + 1, 2, none⟩ = some (.bool xs) ∧ wr.cell? ⟨wo.heap.size + 1 + 1, 0, none⟩ = some (.int .i64 yi) ∧ wr.cell? ⟨wo.heap.size + 1 + 1, 1, none⟩ = some (.bool yv) ∧ wr.cell? ⟨wo.heap.size + 1 + 1, 2, none⟩ = some (.bool ys) ∧ wr.cell? ⟨w1.heap.size, 0, none⟩ = some (B8 Q) ∧ wr.cell? ⟨w1.heap.size, 1, none⟩ = some (B8 QT) ∧ wr.cell? ⟨w2.heap.size, 0, none⟩ = some (B8 R) ∧ wr.cell? ⟨w2.heap.size, 1, none⟩ = some (B8 RT) ∧ wr.cell? ⟨bs, 0, none⟩ = some (B8 S) ∧ wr.cell? ⟨bs, 1, none⟩ = some (B8 ST) ∧ Below w.heap.size w wr := ⟨t0, t1, t2, t3, t4, t5, t6, t7, t8, t9, t10, t11, t12, t13, hbb⟩
          clear t0 t1 t2 t3 t4 t5 t6 t7 t8 t9 t10 t11 t12 t13 T0
          clear hp_0 hp_1 ha_0 ha_1 ha_2 hb_0 hb_1 hb_2 hq_0 hq_1 hr_0 hr_1 hs_0 hs_1 hB hsz hlp hla hlb hlq hlr hls hnp0 hnp1 hkp1 hnp2 hkp2 hna0 hka1 hnb0 hkb1 hnq0 hnq1 hkq1 hnq2 hkq2 hnr0 hnr1 hkr1 hnr2 hkr2 hns0 hns1 hks1 hns2 hks2
          obtain ⟨hp_0, hp_1, ha_0, ha_1, ha_2, hb_0, hb_1, hb_2, hq_0, hq_1, hr_0, hr_1, hs_0, hs_1, hB⟩ := T
          have hsz := hB.size
          have hlp := klt hp_0
          have hla := klt ha_0
          have hlb := klt hb_0
          have hlq := klt hq_0
          have hlr := klt hr_0
          have hls := klt hs_0
          have hnp0 : ¬ (wo.heap.size = wr.heap.size) := by omega
          have hnp1 : ¬ (wo.heap.size = wr.heap.size + 1) := by omega
          have hkp1 : wo.heap.size < wr.heap.size + 1 := by omega
          have hnp2 : ¬ (wo.heap.size = wr.heap.size + 1 + 1) := by omega
          have hkp2 : wo.heap.size < wr.heap.size + 1 + 1 := by omega
          have hna0 : ¬ (wo.heap.size + 1 = wr.heap.size) := by omega
          have hka1 : wo.heap.size < wr.heap.size := by omega
          have hnb0 : ¬ (wo.heap.size + 1 + 1 = wr.heap.size) := by omega
          have hkb1 : wo.heap.size + 1 < wr.heap.size := by omega
          have hnq0 : ¬ (w1.heap.size = wr.heap.size) := by omega
          have hnq1 : ¬ (w1.heap.size = wr.heap.size + 1) := by omega
          have hkq1 : w1.heap.size < wr.heap.size + 1 := by omega
          have hnq2 : ¬ (w1.heap.size = wr.heap.size + 1 + 1) := by omega
          have hkq2 : w1.heap.size < wr.heap.size + 1 + 1 := by omega
          have hnr0 : ¬ (w2.heap.size = wr.heap.size) := by omega
          have hnr1 : ¬ (w2.heap.size = wr.heap.size + 1) := by omega
          have hkr1 : w2.heap.size < wr.heap.size + 1 := by omega
          have hnr2 : ¬ (w2.heap.size = wr.heap.size + 1 + 1) := by omega
          have hkr2 : w2.heap.size < wr.heap.size + 1 + 1 := by omega
          have hns0 : ¬ (bs = wr.heap.size) := by omega
          have hns1 : ¬ (bs = wr.heap.size + 1) := by omega
          have hks1 : bs < wr.heap.size + 1 := by omega
          have hns2 : ¬ (bs = wr.heap.size + 1 + 1) := by omega
          have hks2 : bs < wr.heap.size + 1 + 1 := by omega
          go_wp2_with fail
          refine wp_region_plan (fun w' => w'.cell? ⟨wo.heap.size, 0, none⟩ = some (B8 x) ∧ w'.cell? ⟨wo.heap.size, 1, none⟩ = some (B8 t) ∧ w'.cell? ⟨wo.heap.size + 1, 0, none⟩ = some (.int .i64 xi) ∧ w'.cell? ⟨wo.heap.size + 1, 1, none⟩ = some (.bool xv) ∧ w'.cell? ⟨wo.heap.size + 1, 2, none⟩ = some (.bool xs) ∧ w'.cell? ⟨wo.heap.size + 1 + 1, 0, none⟩ = some (.int .i64 yi) ∧ w'.cell? ⟨wo.heap.size + 1 + 1, 1, none⟩ = some (.bool yv) ∧ w'.cell? ⟨wo.heap.size + 1 + 1, 2, none⟩ = some (.bool ys) ∧ w'.cell? ⟨w1.heap.size, 0, none⟩ = some (B8 Q) ∧ w'.cell? ⟨w1.heap.size, 1, none⟩ = some (B8 QT) ∧ w'.cell? ⟨w2.heap.size, 0, none⟩ = some (B8 R) ∧ w'.cell? ⟨w2.heap.size, 1, none⟩ = some (B8 RT) ∧ w'.cell? ⟨bs, 0, none⟩ = some (B8 S) ∧ w'.cell? ⟨bs, 1, none⟩ = some (B8 ST) ∧ Below w.heap.size w w') (by kernel_rfl) (by kernel_rfl) (by kernel_rfl) ?_ ?_
          · (try dsimp only)
            refine ⟨?_, ?_, ?_, ?_, ?_, ?_, ?_, ?_, ?_, ?_, ?_, ?_, ?_, ?_, ?_⟩ <;> first | (go_simp; done) | (simp [*]; done) | go_grown
          repeat (first
            | (refine Plan.val (v := ?_) ?_ ?_ ?_; rotate_left; (· rfl); (· (intro W hSw; (try dsimp only at hSw); go_simp; all_goals (first | (with_reducible rfl) | (constructor <;> (with_reducible rfl))))); (try simp only [Act.put, List.setIfInBounds_toArray, List.set_cons_zero, List.set_cons_succ]))
            | (refine Plan.no ?_ ?_; (· rfl); (try simp only [Act.put, List.setIfInBounds_toArray, List.set_cons_zero, List.set_cons_succ]))
            | (refine Plan.call (v := ?_) (f := ?_) (args := ?_) ?_ ?_ ?_ ?_; rotate_left 3; (· rfl); (· (intro W hSw; (try dsimp only at hSw); go_simp; all_goals (first | (with_reducible rfl) | (constructor <;> (with_reducible rfl))))); (· (intro W hSw; (try dsimp only at hSw); first | (go_at_call 8; ((with_reducible refine (H5.out _).mono ?_); rintro _ wz ⟨rfl, hb⟩; (refine ⟨?_, ?_⟩; (· with_reducible rfl); exact ⟨kc hb hSw.1, kc hb hSw.2.1, kc hb hSw.2.2.1, kc hb hSw.2.2.2.1, kc hb hSw.2.2.2.2.1, kc hb hSw.2.2.2.2.2.1, kc hb hSw.2.2.2.2.2.2.1, kc hb hSw.2.2.2.2.2.2.2.1, kc hb hSw.2.2.2.2.2.2.2.2.1, kc hb hSw.2.2.2.2.2.2.2.2.2.1, kc hb hSw.2.2.2.2.2.2.2.2.2.2.1, kc hb hSw.2.2.2.2.2.2.2.2.2.2.2.1, kc hb hSw.2.2.2.2.2.2.2.2.2.2.2.2.1, kc hb hSw.2.2.2.2.2.2.2.2.2.2.2.2.2.1, kb hSw.2.2.2.2.2.2.2.2.2.2.2.2.2.2 hb⟩))) | (go_at_call 10; ((with_reducible refine (H6.out _).mono ?_); rintro _ wz ⟨rfl, hb⟩; (refine ⟨?_, ?_⟩; (· with_reducible rfl); exact ⟨kc hb hSw.1, kc hb hSw.2.1, kc hb hSw.2.2.1, kc hb hSw.2.2.2.1, kc hb hSw.2.2.2.2.1, kc hb hSw.2.2.2.2.2.1, kc hb hSw.2.2.2.2.2.2.1, kc hb hSw.2.2.2.2.2.2.2.1, kc hb hSw.2.2.2.2.2.2.2.2.1, kc hb hSw.2.2.2.2.2.2.2.2.2.1, kc hb hSw.2.2.2.2.2.2.2.2.2.2.1, kc hb hSw.2.2.2.2.2.2.2.2.2.2.2.1, kc hb hSw.2.2.2.2.2.2.2.2.2.2.2.2.1, kc hb hSw.2.2.2.2.2.2.2.2.2.2.2.2.2.1, kb hSw.2.2.2.2.2.2.2.2.2.2.2.2.2.2 hb⟩))) | (go_at_call 17; ((with_reducible refine (awake_c _).mono ?_); rintro _ wz ⟨rfl, hb⟩; (refine ⟨?_, ?_⟩; (· with_reducible rfl); exact ⟨kc hb hSw.1, kc hb hSw.2.1, kc hb hSw.2.2.1, kc hb hSw.2.2.2.1, kc hb hSw.2.2.2.2.1, kc hb hSw.2.2.2.2.2.1, kc hb hSw.2.2.2.2.2.2.1, kc hb hSw.2.2.2.2.2.2.2.1, kc hb hSw.2.2.2.2.2.2.2.2.1, kc hb hSw.2.2.2.2.2.2.2.2.2.1, kc hb hSw.2.2.2.2.2.2.2.2.2.2.1, kc hb hSw.2.2.2.2.2.2.2.2.2.2.2.1, kc hb hSw.2.2.2.2.2.2.2.2.2.2.2.2.1, kc hb hSw.2.2.2.2.2.2.2.2.2.2.2.2.2.1, kb hSw.2.2.2.2.2.2.2.2.2.2.2.2.2.2 hb⟩))))); (try simp only [Act.put, List.setIfInBounds_toArray, List.set_cons_zero, List.set_cons_succ])))
          refine Plan.done ?_
          intro wz T
          (try dsimp only at T)
          have hBe := T.2.2.2.2.2.2.2.2.2.2.2.2.2.2
          go_wp2
          go_ret
          exact ⟨rfl, hBo.trans (hBe.mono hso)⟩
        · have _g := hbb
          have TT := T0.out
          have h6 := H6.out
          rw [hQ1, hQ2] at TT h6
          have HH := Lib.hid h6
          clear h6
          obtain ⟨t0, t1, t2, t3, t4, t5, t6, t7, t8, t9, t10, t11, t12, t13⟩ := TT
          have T : wr.cell? ⟨wo.heap.size, 0, none⟩ = some (B8 x) ∧ wr.cell? ⟨wo.heap.size, 1, none⟩ = some (B8 t) ∧ wr.cell? ⟨wo.heap.size + 1, 0, none⟩ = some (.int .i64 xi) ∧ wr.cell? ⟨wo.heap.size + 1, 1, none⟩ = some (.bool xv) ∧ wr.cell? ⟨wo.heap.size + 1, 2, none⟩ = some (.bool xs) ∧ wr.cell? ⟨wo.heap.size + 1 + 1, 0, none⟩ = some (.int .i64 yi) ∧ wr.cell? ⟨wo.heap.size + 1 + 1, 1, none⟩ = some (.bool yv) ∧ wr.cell? ⟨wo.heap.size + 1 + 1, 2, none⟩ = some (.bool ys) ∧ wr.cell? ⟨w1.heap.size, 0, none⟩ = some (B8 x) ∧ wr.cell? ⟨w1.heap.size, 1, none⟩ = some (B8 t) ∧ wr.cell? ⟨w2.heap.size, 0, none⟩ = some (B8 R) ∧ wr.cell? ⟨w2.heap.size, 1, none⟩ = some (B8 RT) ∧ wr.cell? ⟨bs, 0, none⟩ = some (B8 S) ∧ wr.cell? ⟨bs, 1, none⟩ = some (B8 ST) ∧ Below w.heap.size w wr := ⟨t0, t1, t2, t3, t4, t5, t6, t7, t8, t9, t10, t11, t12, t13, hbb⟩
          clear t0 t1 t2 t3 t4 t5 t6 t7 t8 t9 t10 t11 t12 t13 T0
          clear hp_0 hp_1 ha_0 ha_1 ha_2 hb_0 hb_1 hb_2 hq_0 hq_1 hr_0 hr_1 hs_0 hs_1 hB hsz hlp hla hlb hlq hlr hls hnp0 hnp1 hkp1 hnp2 hkp2 hna0 hka1 hnb0 hkb1 hnq0 hnq1 hkq1 hnq2 hkq2 hnr0 hnr1 hkr1 hnr2 hkr2 hns0 hns1 hks1 hns2 hks2
          obtain ⟨hp_0, hp_1, ha_0, ha_1, ha_2, hb_0, hb_1, hb_2, hq1_0, hq1_1, hr_0, hr_1, hs_0, hs_1, hB⟩ := T
          have hsz := hB.size
          have hlp := klt hp_0
          have hla := klt ha_0
          have hlb := klt hb_0
          have hlq1 := klt hq1_0
          have hlr := klt hr_0
          have hls := klt hs_0
          have hnp0 : ¬ (wo.heap.size = wr.heap.size) := by omega
          have hnp1 : ¬ (wo.heap.size = wr.heap.size + 1) := by omega
          have hkp1 : wo.heap.size < wr.heap.size + 1 := by omega
          have hnp2 : ¬ (wo.heap.size = wr.heap.size + 1 + 1) := by omega
          have hkp2 : wo.heap.size < wr.heap.size + 1 + 1 := by omega
          have hna0 : ¬ (wo.heap.size + 1 = wr.heap.size) := by omega
          have hka1 : wo.heap.size < wr.heap.size := by omega
          have hnb0 : ¬ (wo.heap.size + 1 + 1 = wr.heap.size) := by omega
          have hkb1 : wo.heap.size + 1 < wr.heap.size := by omega
          have hnq10 : ¬ (w1.heap.size = wr.heap.size) := by omega
          have hnq11 : ¬ (w1.heap.size = wr.heap.size + 1) := by omega
          have hkq11 : w1.heap.size < wr.heap.size + 1 := by omega
          have hnq12 : ¬ (w1.heap.size = wr.heap.size + 1 + 1) := by omega
          have hkq12 : w1.heap.size < wr.heap.size + 1 + 1 := by omega
          have hnr0 : ¬ (w2.heap.size = wr.heap.size) := by omega
          have hnr1 : ¬ (w2.heap.size = wr.heap.size + 1) := by omega
          have hkr1 : w2.heap.size < wr.heap.size + 1 := by omega
          have hnr2 : ¬ (w2.heap.size = wr.heap.size + 1 + 1) := by omega
          have hkr2 : w2.heap.size < wr.heap.size + 1 + 1 := by omega
          have hns0 : ¬ (bs = wr.heap.size) := by omega
          have hns1 : ¬ (bs = wr.heap.size + 1) := by omega
          have hks1 : bs < wr.heap.size + 1 := by omega
          have hns2 : ¬ (bs = wr.heap.size + 1 + 1) := by omega
          have hks2 : bs < wr.heap.size + 1 + 1 := by omega
          go_wp2_with fail
          refine wp_region_plan (fun w' => w'.cell? ⟨wo.heap.size, 0, none⟩ = some (B8 x) ∧ w'.cell? ⟨wo.heap.size, 1, none⟩ = some (B8 t) ∧ w'.cell? ⟨wo.heap.size + 1, 0, none⟩ = some (.int .i64 xi) ∧ w'.cell? ⟨wo.heap.size + 1, 1, none⟩ = some (.bool xv) ∧ w'.cell? ⟨wo.heap.size + 1, 2, none⟩ = some (.bool xs) ∧ w'.cell? ⟨wo.heap.size + 1 + 1, 0, none⟩ = some (.int .i64 yi) ∧ w'.cell? ⟨wo.heap.size + 1 + 1, 1, none⟩ = some (.bool yv) ∧ w'.cell? ⟨wo.heap.size + 1 + 1, 2, none⟩ = some (.bool ys) ∧ w'.cell? ⟨w1.heap.size, 0, none⟩ = some (B8 x) ∧ w'.cell? ⟨w1.heap.size, 1, none⟩ = some (B8 t) ∧ w'.cell? ⟨w2.heap.size, 0, none⟩ = some (B8 R) ∧ w'.cell? ⟨w2.heap.size, 1, none⟩ = some (B8 RT) ∧ w'.cell? ⟨bs, 0, none⟩ = some (B8 S) ∧ w'.cell? ⟨bs, 1, none⟩ = some (B8 ST) ∧ Below w.heap.size w w') (by kernel_rfl) (by kernel_rfl) (by kernel_rfl) ?_ ?_
          · (try dsimp only)
            refine ⟨?_, ?_, ?_, ?_, ?_, ?_, ?_, ?_, ?_, ?_, ?_, ?_, ?_, ?_, ?_⟩ <;> first | (go_simp; done) | (simp [*]; done) | go_grown
          repeat (first
            | (refine Plan.val (v := ?_) ?_ ?_ ?_; rotate_left; (· rfl); (· (intro W hSw; (try dsimp only at hSw); go_simp; all_goals (first | (with_reducible rfl) | (constructor <;> (with_reducible rfl))))); (try simp only [Act.put, List.setIfInBounds_toArray, List.set_cons_zero, List.set_cons_succ]))
            | (refine Plan.no ?_ ?_; (· rfl); (try simp only [Act.put, List.setIfInBounds_toArray, List.set_cons_zero, List.set_cons_succ]))
            | (refine Plan.call (v := ?_) (f := ?_) (args := ?_) ?_ ?_ ?_ ?_; rotate_left 3; (· rfl); (· (intro W hSw; (try dsimp only at hSw); go_simp; all_goals (first | (with_reducible rfl) | (constructor <;> (with_reducible rfl))))); (· (intro W hSw; (try dsimp only at hSw); first | (go_at_call 8; ((with_reducible refine (H5.out _).mono ?_); rintro _ wz ⟨rfl, hb⟩; (refine ⟨?_, ?_⟩; (· with_reducible rfl); exact ⟨kc hb hSw.1, kc hb hSw.2.1, kc hb hSw.2.2.1, kc hb hSw.2.2.2.1, kc hb hSw.2.2.2.2.1, kc hb hSw.2.2.2.2.2.1, kc hb hSw.2.2.2.2.2.2.1, kc hb hSw.2.2.2.2.2.2.2.1, kc hb hSw.2.2.2.2.2.2.2.2.1, kc hb hSw.2.2.2.2.2.2.2.2.2.1, kc hb hSw.2.2.2.2.2.2.2.2.2.2.1, kc hb hSw.2.2.2.2.2.2.2.2.2.2.2.1, kc hb hSw.2.2.2.2.2.2.2.2.2.2.2.2.1, kc hb hSw.2.2.2.2.2.2.2.2.2.2.2.2.2.1, kb hSw.2.2.2.2.2.2.2.2.2.2.2.2.2.2 hb⟩))) | (go_at_call 10; ((with_reducible refine (HH.out _).mono ?_); rintro _ wz ⟨rfl, hb⟩; (refine ⟨?_, ?_⟩; (· with_reducible rfl); exact ⟨kc hb hSw.1, kc hb hSw.2.1, kc hb hSw.2.2.1, kc hb hSw.2.2.2.1, kc hb hSw.2.2.2.2.1, kc hb hSw.2.2.2.2.2.1, kc hb hSw.2.2.2.2.2.2.1, kc hb hSw.2.2.2.2.2.2.2.1, kc hb hSw.2.2.2.2.2.2.2.2.1, kc hb hSw.2.2.2.2.2.2.2.2.2.1, kc hb hSw.2.2.2.2.2.2.2.2.2.2.1, kc hb hSw.2.2.2.2.2.2.2.2.2.2.2.1, kc hb hSw.2.2.2.2.2.2.2.2.2.2.2.2.1, kc hb hSw.2.2.2.2.2.2.2.2.2.2.2.2.2.1, kb hSw.2.2.2.2.2.2.2.2.2.2.2.2.2.2 hb⟩))) | (go_at_call 17; ((with_reducible refine (awake_c _).mono ?_); rintro _ wz ⟨rfl, hb⟩; (refine ⟨?_, ?_⟩; (· with_reducible rfl); exact ⟨kc hb hSw.1, kc hb hSw.2.1, kc hb hSw.2.2.1, kc hb hSw.2.2.2.1, kc hb hSw.2.2.2.2.1, kc hb hSw.2.2.2.2.2.1, kc hb hSw.2.2.2.2.2.2.1, kc hb hSw.2.2.2.2.2.2.2.1, kc hb hSw.2.2.2.2.2.2.2.2.1, kc hb hSw.2.2.2.2.2.2.2.2.2.1, kc hb hSw.2.2.2.2.2.2.2.2.2.2.1, kc hb hSw.2.2.2.2.2.2.2.2.2.2.2.1, kc hb hSw.2.2.2.2.2.2.2.2.2.2.2.2.1, kc hb hSw.2.2.2.2.2.2.2.2.2.2.2.2.2.1, kb hSw.2.2.2.2.2.2.2.2.2.2.2.2.2.2 hb⟩))))); (try simp only [Act.put, List.setIfInBounds_toArray, List.set_cons_zero, List.set_cons_succ])))
          refine Plan.done ?_
          intro wz T
          (try dsimp only at T)
          have hBe := T.2.2.2.2.2.2.2.2.2.2.2.2.2.2
          go_wp2
          go_ret
          exact ⟨rfl, hBo.trans (hBe.mono hso)⟩
        · have _g := hbb
          have TT := T0.out
          have h6 := H6.out
          rw [hQ1, hQ2] at TT h6
          have HH := Lib.hid h6
          clear h6
          obtain ⟨t0, t1, t2, t3, t4, t5, t6, t7, t8, t9, t10, t11, t12, t13⟩ := TT
          have T : wr.cell? ⟨wo.heap.size, 0, none⟩ = some (B8 x) ∧ wr.cell? ⟨wo.heap.size, 1, none⟩ = some (B8 t) ∧ wr.cell? ⟨wo.heap.size + 1, 0, none⟩ = some (.int .i64 xi) ∧ wr.cell? ⟨wo.heap.size + 1, 1, none⟩ = some (.bool xv) ∧ wr.cell? ⟨wo.heap.size + 1, 2, none⟩ = some (.bool xs) ∧ wr.cell? ⟨wo.heap.size + 1 + 1, 0, none⟩ = some (.int .i64 yi) ∧ wr.cell? ⟨wo.heap.size + 1 + 1, 1, none⟩ = some (.bool yv) ∧ wr.cell? ⟨wo.heap.size + 1 + 1, 2, none⟩ = some (.bool ys) ∧ wr.cell? ⟨w1.heap.size, 0, none⟩ = some (B8 x) ∧ wr.cell? ⟨w1.heap.size, 1, none⟩ = some (B8 t) ∧ wr.cell? ⟨w2.heap.size, 0, none⟩ = some (B8 R) ∧ wr.cell? ⟨w2.heap.size, 1, none⟩ = some (B8 RT) ∧ wr.cell? ⟨bs, 0, none⟩ = some (B8 S) ∧ wr.cell? ⟨bs, 1, none⟩ = some (B8 ST) ∧ Below w.heap.size w wr := ⟨t0, t1, t2, t3, t4, t5, t6, t7, t8, t9, t10, t11, t12, t13, hbb⟩
          clear t0 t1 t2 t3 t4 t5 t6 t7 t8 t9 t10 t11 t12 t13 T0
          clear hp_0 hp_1 ha_0 ha_1 ha_2 hb_0 hb_1 hb_2 hq_0 hq_1 hr_0 hr_1 hs_0 hs_1 hB hsz hlp hla hlb hlq hlr hls hnp0 hnp1 hkp1 hnp2 hkp2 hna0 hka1 hnb0 hkb1 hnq0 hnq1 hkq1 hnq2 hkq2 hnr0 hnr1 hkr1 hnr2 hkr2 hns0 hns1 hks1 hns2 hks2
          obtain ⟨hp_0, hp_1, ha_0, ha_1, ha_2, hb_0, hb_1, hb_2, hq1_0, hq1_1, hr_0, hr_1, hs_0, hs_1, hB⟩ := T
          have hsz := hB.size
          have hlp := klt hp_0
          have hla := klt ha_0
          have hlb := klt hb_0
          have hlq1 := klt hq1_0
          have hlr := klt hr_0
          have hls := klt hs_0
          have hnp0 : ¬ (wo.heap.size = wr.heap.size) := by omega
          have hnp1 : ¬ (wo.heap.size = wr.heap.size + 1) := by omega
          have hkp1 : wo.heap.size < wr.heap.size + 1 := by omega
          have hnp2 : ¬ (wo.heap.size = wr.heap.size + 1 + 1) := by omega
          have hkp2 : wo.heap.size < wr.heap.size + 1 + 1 := by omega
          have hna0 : ¬ (wo.heap.size + 1 = wr.heap.size) := by omega
          have hka1 : wo.heap.size < wr.heap.size := by omega
          have hnb0 : ¬ (wo.heap.size + 1 + 1 = wr.heap.size) := by omega
          have hkb1 : wo.heap.size + 1 < wr.heap.size := by omega
          have hnq10 : ¬ (w1.heap.size = wr.heap.size) := by omega
          have hnq11 : ¬ (w1.heap.size = wr.heap.size + 1) := by omega
          have hkq11 : w1.heap.size < wr.heap.size + 1 := by omega
          have hnq12 : ¬ (w1.heap.size = wr.heap.size + 1 + 1) := by omega
          have hkq12 : w1.heap.size < wr.heap.size + 1 + 1 := by omega
          have hnr0 : ¬ (w2.heap.size = wr.heap.size) := by omega
          have hnr1 : ¬ (w2.heap.size = wr.heap.size + 1) := by omega
          have hkr1 : w2.heap.size < wr.heap.size + 1 := by omega
          have hnr2 : ¬ (w2.heap.size = wr.heap.size + 1 + 1) := by omega
          have hkr2 : w2.heap.size < wr.heap.size + 1 + 1 := by omega
          have hns0 : ¬ (bs = wr.heap.size) := by omega
          have hns1 : ¬ (bs = wr.heap.size + 1) := by omega
          have hks1 : bs < wr.heap.size + 1 := by omega
          have hns2 : ¬ (bs = wr.heap.size + 1 + 1) := by omega
          have hks2 : bs < wr.heap.size + 1 + 1 := by omega
          go_wp2_with fail
          refine wp_region_plan (fun w' => w'.cell? ⟨wo.heap.size, 0, none⟩ = some (B8 x) ∧ w'.cell? ⟨wo.heap.size, 1, none⟩ = some (B8 t) ∧ w'.cell? ⟨wo.heap.size + 1, 0, none⟩ = some (.int .i64 xi) ∧ w'.cell? ⟨wo.heap.size + 1, 1, none⟩ = some (.bool xv) ∧ w'.cell? ⟨wo.heap.size + 1, 2, none⟩ = some (.bool xs) ∧ w'.cell? ⟨wo.heap.size + 1 + 1, 0, none⟩ = some (.int .i64 yi) ∧ w'.cell? ⟨wo.heap.size + 1 + 1, 1, none⟩ = some (.bool yv) ∧ w'.cell? ⟨wo.heap.size + 1 + 1, 2, none⟩ = some (.bool ys) ∧ w'.cell? ⟨w1.heap.size, 0, none⟩ = some (B8 x) ∧ w'.cell? ⟨w1.heap.size, 1, none⟩ = some (B8 t) ∧ w'.cell? ⟨w2.heap.size, 0, none⟩ = some (B8 R) ∧ w'.cell? ⟨w2.heap.size, 1, none⟩ = some (B8 RT) ∧ w'.cell? ⟨bs, 0, none⟩ = some (B8 S) ∧ w'.cell? ⟨bs, 1, none⟩ = some (B8 ST) ∧ Below w.heap.size w w') (by kernel_rfl) (by kernel_rfl) (by kernel_rfl) ?_ ?_
          · (try dsimp only)
            refine ⟨?_, ?_, ?_, ?_, ?_, ?_, ?_, ?_, ?_, ?_, ?_, ?_, ?_, ?_, ?_⟩ <;> first | (go_simp; done) | (simp [*]; done) | go_grown
          repeat (first
            | (refine Plan.val (v := ?_) ?_ ?_ ?_; rotate_left; (· rfl); (· (intro W hSw; (try dsimp only at hSw); go_simp; all_goals (first | (with_reducible rfl) | (constructor <;> (with_reducible rfl))))); (try simp only [Act.put, List.setIfInBounds_toArray, List.set_cons_zero, List.set_cons_succ]))
            | (refine Plan.no ?_ ?_; (· rfl); (try simp only [Act.put, List.setIfInBounds_toArray, List.set_cons_zero, List.set_cons_succ]))
            | (refine Plan.call (v := ?_) (f := ?_) (args := ?_) ?_ ?_ ?_ ?_; rotate_left 3; (· rfl); (· (intro W hSw; (try dsimp only at hSw); go_simp; all_goals (first | (with_reducible rfl) | (constructor <;> (with_reducible rfl))))); (· (intro W hSw; (try dsimp only at hSw); first | (go_at_call 8; ((with_reducible refine (H5.out _).mono ?_); rintro _ wz ⟨rfl, hb⟩; (refine ⟨?_, ?_⟩; (· with_reducible rfl); exact ⟨kc hb hSw.1, kc hb hSw.2.1, kc hb hSw.2.2.1, kc hb hSw.2.2.2.1, kc hb hSw.2.2.2.2.1, kc hb hSw.2.2.2.2.2.1, kc hb hSw.2.2.2.2.2.2.1, kc hb hSw.2.2.2.2.2.2.2.1, kc hb hSw.2.2.2.2.2.2.2.2.1, kc hb hSw.2.2.2.2.2.2.2.2.2.1, kc hb hSw.2.2.2.2.2.2.2.2.2.2.1, kc hb hSw.2.2.2.2.2.2.2.2.2.2.2.1, kc hb hSw.2.2.2.2.2.2.2.2.2.2.2.2.1, kc hb hSw.2.2.2.2.2.2.2.2.2.2.2.2.2.1, kb hSw.2.2.2.2.2.2.2.2.2.2.2.2.2.2 hb⟩))) | (go_at_call 10; ((with_reducible refine (HH.out _).mono ?_); rintro _ wz ⟨rfl, hb⟩; (refine ⟨?_, ?_⟩; (· with_reducible rfl); exact ⟨kc hb hSw.1, kc hb hSw.2.1, kc hb hSw.2.2.1, kc hb hSw.2.2.2.1, kc hb hSw.2.2.2.2.1, kc hb hSw.2.2.2.2.2.1, kc hb hSw.2.2.2.2.2.2.1, kc hb hSw.2.2.2.2.2.2.2.1, kc hb hSw.2.2.2.2.2.2.2.2.1, kc hb hSw.2.2.2.2.2.2.2.2.2.1, kc hb hSw.2.2.2.2.2.2.2.2.2.2.1, kc hb hSw.2.2.2.2.2.2.2.2.2.2.2.1, kc hb hSw.2.2.2.2.2.2.2.2.2.2.2.2.1, kc hb hSw.2.2.2.2.2.2.2.2.2.2.2.2.2.1, kb hSw.2.2.2.2.2.2.2.2.2.2.2.2.2.2 hb⟩))) | (go_at_call 17; ((with_reducible refine (awake_c _).mono ?_); rintro _ wz ⟨rfl, hb⟩; (refine ⟨?_, ?_⟩; (· with_reducible rfl); exact ⟨kc hb hSw.1, kc hb hSw.2.1, kc hb hSw.2.2.1, kc hb hSw.2.2.2.1, kc hb hSw.2.2.2.2.1, kc hb hSw.2.2.2.2.2.1, kc hb hSw.2.2.2.2.2.2.1, kc hb hSw.2.2.2.2.2.2.2.1, kc hb hSw.2.2.2.2.2.2.2.2.1, kc hb hSw.2.2.2.2.2.2.2.2.2.1, kc hb hSw.2.2.2.2.2.2.2.2.2.2.1, kc hb hSw.2.2.2.2.2.2.2.2.2.2.2.1, kc hb hSw.2.2.2.2.2.2.2.2.2.2.2.2.1, kc hb hSw.2.2.2.2.2.2.2.2.2.2.2.2.2.1, kb hSw.2.2.2.2.2.2.2.2.2.2.2.2.2.2 hb⟩))))); (try simp only [Act.put, List.setIfInBounds_toArray, List.set_cons_zero, List.set_cons_succ])))
          refine Plan.done ?_
          intro wz T
          (try dsimp only at T)
          have hBe := T.2.2.2.2.2.2.2.2.2.2.2.2.2.2
          go_wp2
          go_ret
          exact ⟨rfl, hBo.trans (hBe.mono hso)⟩
      · rcases hplace with ⟨h0, h8⟩ | ⟨h0, hQ1, hQ2⟩ | ⟨⟨h0, h8⟩, hQ1, hQ2⟩
        · have _g := hbb
          have TT := T0.out
          rw [e1] at TT
          obtain ⟨t0, t1, t2, t3, t4, t5, t6, t7, t8, t9, t10, t11, t12, t13⟩ := TT
          have T : wr.cell? ⟨wo.heap.size, 0, none⟩ = some (B8 x) ∧ wr.cell? ⟨wo.heap.size, 1, none⟩ = some (B8 t) ∧ wr.cell? ⟨wo.heap.size + 1, 0, none⟩ = some (.int .i64 xi) ∧ wr.cell? ⟨wo.heap.size + 1, 1, none⟩ = some (.bool xv) ∧ wr.cell? ⟨wo.heap.size + 1, 2, none⟩ = some (.bool xs) ∧ wr.cell? ⟨wo.heap.size + 1 + 1, 0, none⟩ = some (.int .i64 yi) ∧ wr.cell? ⟨wo.heap.size + 1 + 1, 1, none⟩ = some (.bool yv) ∧ wr.cell? ⟨wo.heap.size + 1 + 1, 2, none⟩ = some (.bool ys) ∧ wr.cell? ⟨w1.heap.size, 0, none⟩ = some (B8 Q) ∧ wr.cell? ⟨w1.heap.size, 1, none⟩ = some (B8 QT) ∧ wr.cell? ⟨w2.heap.size, 0, none⟩ = some (B8 R) ∧ wr.cell? ⟨w2.heap.size, 1, none⟩ = some (B8 RT) ∧ wr.cell? ⟨bs, 0, none⟩ = some (B8 R) ∧ wr.cell? ⟨bs, 1, none⟩ = some (B8 ST) ∧ Below w.heap.size w wr := ⟨t0, t1, t2, t3, t4, t5, t6, t7, t8, t9, t10, t11, t12, t13, hbb⟩
          clear t0 t1 t2 t3 t4 t5 t6 t7 t8 t9 t10 t11 t12 t13 T0
          clear hp_0 hp_1 ha_0 ha_1 ha_2 hb_0 hb_1 hb_2 hq_0 hq_1 hr_0 hr_1 hs_0 hs_1 hB hsz hlp hla hlb hlq hlr hls hnp0 hnp1 hkp1 hnp2 hkp2 hna0 hka1 hnb0 hkb1 hnq0 hnq1 hkq1 hnq2 hkq2 hnr0 hnr1 hkr1 hnr2 hkr2 hns0 hns1 hks1 hns2 hks2
          obtain ⟨hp_0, hp_1, ha_0, ha_1, ha_2, hb_0, hb_1, hb_2, hq_0, hq_1, hr_0, hr_1, hs2_0, hs2_1, hB⟩ := T
          have hsz := hB.size
          have hlp := klt hp_0
          have hla := klt ha_0
          have hlb := klt hb_0
          have hlq := klt hq_0
          have hlr := klt hr_0
          have hls2 := klt hs2_0
          have hnp0 : ¬ (wo.heap.size = wr.heap.size) := by omega
          have hnp1 : ¬ (wo.heap.size = wr.heap.size + 1) := by omega
          have hkp1 : wo.heap.size < wr.heap.size + 1 := by omega
          have hnp2 : ¬ (wo.heap.size = wr.heap.size + 1 + 1) := by omega
          have hkp2 : wo.heap.size < wr.heap.size + 1 + 1 := by omega
          have hna0 : ¬ (wo.heap.size + 1 = wr.heap.size) := by omega
          have hka1 : wo.heap.size < wr.heap.size := by omega
          have hnb0 : ¬ (wo.heap.size + 1 + 1 = wr.heap.size) := by omega
          have hkb1 : wo.heap.size + 1 < wr.heap.size := by omega
          have hnq0 : ¬ (w1.heap.size = wr.heap.size) := by omega
          have hnq1 : ¬ (w1.heap.size = wr.heap.size + 1) := by omega
          have hkq1 : w1.heap.size < wr.heap.size + 1 := by omega
          have hnq2 : ¬ (w1.heap.size = wr.heap.size + 1 + 1) := by omega
          have hkq2 : w1.heap.size < wr.heap.size + 1 + 1 := by omega
          have hnr0 : ¬ (w2.heap.size = wr.heap.size) := by omega
          have hnr1 : ¬ (w2.heap.size = wr.heap.size + 1) := by omega
          have hkr1 : w2.heap.size < wr.heap.size + 1 := by omega
          have hnr2 : ¬ (w2.heap.size = wr.heap.size + 1 + 1) := by omega
          have hkr2 : w2.heap.size < wr.heap.size + 1 + 1 := by omega
          have hns20 : ¬ (bs = wr.heap.size) := by omega
          have hns21 : ¬ (bs = wr.heap.size + 1) := by omega
          have hks21 : bs < wr.heap.size + 1 := by omega
          have hns22 : ¬ (bs = wr.heap.size + 1 + 1) := by omega
          have hks22 : bs < wr.heap.size + 1 + 1 := by omega
          go_wp2_with fail
          refine wp_region_plan (fun w' => w'.cell? ⟨wo.heap.size, 0, none⟩ = some (B8 x) ∧ w'.cell? ⟨wo.heap.size, 1, none⟩ = some (B8 t) ∧ w'.cell? ⟨wo.heap.size + 1, 0, none⟩ = some (.int .i64 xi) ∧ w'.cell? ⟨wo.heap.size + 1, 1, none⟩ = some (.bool xv) ∧ w'.cell? ⟨wo.heap.size + 1, 2, none⟩ = some (.bool xs) ∧ w'.cell? ⟨wo.heap.size + 1 + 1, 0, none⟩ = some (.int .i64 yi) ∧ w'.cell? ⟨wo.heap.size + 1 + 1, 1, none⟩ = some (.bool yv) ∧ w'.cell? ⟨wo.heap.size + 1 + 1, 2, none⟩ = some (.bool ys) ∧ w'.cell? ⟨w1.heap.size, 0, none⟩ = some (B8 Q) ∧ w'.cell? ⟨w1.heap.size, 1, none⟩ = some (B8 QT) ∧ w'.cell? ⟨w2.heap.size, 0, none⟩ = some (B8 R) ∧ w'.cell? ⟨w2.heap.size, 1, none⟩ = some (B8 RT) ∧ w'.cell? ⟨bs, 0, none⟩ = some (B8 R) ∧ w'.cell? ⟨bs, 1, none⟩ = some (B8 ST) ∧ Below w.heap.size w w') (by kernel_rfl) (by kernel_rfl) (by kernel_rfl) ?_ ?_
          · (try dsimp only)
            refine ⟨?_, ?_, ?_, ?_, ?_, ?_, ?_, ?_, ?_, ?_, ?_, ?_, ?_, ?_, ?_⟩ <;> first | (go_simp; done) | (simp [*]; done) | go_grown
          repeat (first
            | (refine Plan.val (v := ?_) ?_ ?_ ?_; rotate_left; (· rfl); (· (intro W hSw; (try dsimp only at hSw); go_simp; all_goals (first | (with_reducible rfl) | (constructor <;> (with_reducible rfl))))); (try simp only [Act.put, List.setIfInBounds_toArray, List.set_cons_zero, List.set_cons_succ]))
            | (refine Plan.no ?_ ?_; (· rfl); (try simp only [Act.put, List.setIfInBounds_toArray, List.set_cons_zero, List.set_cons_succ]))
            | (refine Plan.call (v := ?_) (f := ?_) (args := ?_) ?_ ?_ ?_ ?_; rotate_left 3; (· rfl); (· (intro W hSw; (try dsimp only at hSw); go_simp; all_goals (first | (with_reducible rfl) | (constructor <;> (with_reducible rfl))))); (· (intro W hSw; (try dsimp only at hSw); first | (go_at_call 8; ((with_reducible refine (H5.out _).mono ?_); rintro _ wz ⟨rfl, hb⟩; (refine ⟨?_, ?_⟩; (· with_reducible rfl); exact ⟨kc hb hSw.1, kc hb hSw.2.1, kc hb hSw.2.2.1, kc hb hSw.2.2.2.1, kc hb hSw.2.2.2.2.1, kc hb hSw.2.2.2.2.2.1, kc hb hSw.2.2.2.2.2.2.1, kc hb hSw.2.2.2.2.2.2.2.1, kc hb hSw.2.2.2.2.2.2.2.2.1, kc hb hSw.2.2.2.2.2.2.2.2.2.1, kc hb hSw.2.2.2.2.2.2.2.2.2.2.1, kc hb hSw.2.2.2.2.2.2.2.2.2.2.2.1, kc hb hSw.2.2.2.2.2.2.2.2.2.2.2.2.1, kc hb hSw.2.2.2.2.2.2.2.2.2.2.2.2.2.1, kb hSw.2.2.2.2.2.2.2.2.2.2.2.2.2.2 hb⟩))) | (go_at_call 10; ((with_reducible refine (H6.out _).mono ?_); rintro _ wz ⟨rfl, hb⟩; (refine ⟨?_, ?_⟩; (· with_reducible rfl); exact ⟨kc hb hSw.1, kc hb hSw.2.1, kc hb hSw.2.2.1, kc hb hSw.2.2.2.1, kc hb hSw.2.2.2.2.1, kc hb hSw.2.2.2.2.2.1, kc hb hSw.2.2.2.2.2.2.1, kc hb hSw.2.2.2.2.2.2.2.1, kc hb hSw.2.2.2.2.2.2.2.2.1, kc hb hSw.2.2.2.2.2.2.2.2.2.1, kc hb hSw.2.2.2.2.2.2.2.2.2.2.1, kc hb hSw.2.2.2.2.2.2.2.2.2.2.2.1, kc hb hSw.2.2.2.2.2.2.2.2.2.2.2.2.1, kc hb hSw.2.2.2.2.2.2.2.2.2.2.2.2.2.1, kb hSw.2.2.2.2.2.2.2.2.2.2.2.2.2.2 hb⟩))) | (go_at_call 17; ((with_reducible refine (awake_c _).mono ?_); rintro _ wz ⟨rfl, hb⟩; (refine ⟨?_, ?_⟩; (· with_reducible rfl); exact ⟨kc hb hSw.1, kc hb hSw.2.1, kc hb hSw.2.2.1, kc hb hSw.2.2.2.1, kc hb hSw.2.2.2.2.1, kc hb hSw.2.2.2.2.2.1, kc hb hSw.2.2.2.2.2.2.1, kc hb hSw.2.2.2.2.2.2.2.1, kc hb hSw.2.2.2.2.2.2.2.2.1, kc hb hSw.2.2.2.2.2.2.2.2.2.1, kc hb hSw.2.2.2.2.2.2.2.2.2.2.1, kc hb hSw.2.2.2.2.2.2.2.2.2.2.2.1, kc hb hSw.2.2.2.2.2.2.2.2.2.2.2.2.1, kc hb hSw.2.2.2.2.2.2.2.2.2.2.2.2.2.1, kb hSw.2.2.2.2.2.2.2.2.2.2.2.2.2.2 hb⟩))))); (try simp only [Act.put, List.setIfInBounds_toArray, List.set_cons_zero, List.set_cons_succ])))
          refine Plan.done ?_
          intro wz T
          (try dsimp only at T)
          have hBe := T.2.2.2.2.2.2.2.2.2.2.2.2.2.2
          go_wp2
          go_ret
          exact ⟨rfl, hBo.trans (hBe.mono hso)⟩
        · have _g := hbb
          have TT := T0.out
          rw [e1] at TT
          have h6 := H6.out
          rw [hQ1, hQ2] at TT h6
          have HH := Lib.hid h6
          clear h6
          obtain ⟨t0, t1, t2, t3, t4, t5, t6, t7, t8, t9, t10, t11, t12, t13⟩ := TT
          have T : wr.cell? ⟨wo.heap.size, 0, none⟩ = some (B8 x) ∧ wr.cell? ⟨wo.heap.size, 1, none⟩ = some (B8 t) ∧ wr.cell? ⟨wo.heap.size + 1, 0, none⟩ = some (.int .i64 xi) ∧ wr.cell? ⟨wo.heap.size + 1, 1, none⟩ = some (.bool xv) ∧ wr.cell? ⟨wo.heap.size + 1, 2, none⟩ = some (.bool xs) ∧ wr.cell? ⟨wo.heap.size + 1 + 1, 0, none⟩ = some (.int .i64 yi) ∧ wr.cell? ⟨wo.heap.size + 1 + 1, 1, none⟩ = some (.bool yv) ∧ wr.cell? ⟨wo.heap.size + 1 + 1, 2, none⟩ = some (.bool ys) ∧ wr.cell? ⟨w1.heap.size, 0, none⟩ = some (B8 x) ∧ wr.cell? ⟨w1.heap.size, 1, none⟩ = some (B8 t) ∧ wr.cell? ⟨w2.heap.size, 0, none⟩ = some (B8 R) ∧ wr.cell? ⟨w2.heap.size, 1, none⟩ = some (B8 RT) ∧ wr.cell? ⟨bs, 0, none⟩ = some (B8 R) ∧ wr.cell? ⟨bs, 1, none⟩ = some (B8 ST) ∧ Below w.heap.size w wr := ⟨t0, t1, t2, t3, t4, t5, t6, t7, t8, t9, t10, t11, t12, t13, hbb⟩
          clear t0 t1 t2 t3 t4 t5 t6 t7 t8 t9 t10 t11 t12 t13 T0
          clear hp_0 hp_1 ha_0 ha_1 ha_2 hb_0 hb_1 hb_2 hq_0 hq_1 hr_0 hr_1 hs_0 hs_1 hB hsz hlp hla hlb hlq hlr hls hnp0 hnp1 hkp1 hnp2 hkp2 hna0 hka1 hnb0 hkb1 hnq0 hnq1 hkq1 hnq2 hkq2 hnr0 hnr1 hkr1 hnr2 hkr2 hns0 hns1 hks1 hns2 hks2
          obtain ⟨hp_0, hp_1, ha_0, ha_1, ha_2, hb_0, hb_1, hb_2, hq1_0, hq1_1, hr_0, hr_1, hs2_0, hs2_1, hB⟩ := T
          have hsz := hB.size
          have hlp := klt hp_0
          have hla := klt ha_0
          have hlb := klt hb_0
          have hlq1 := klt hq1_0
          have hlr := klt hr_0
          have hls2 := klt hs2_0
          have hnp0 : ¬ (wo.heap.size = wr.heap.size) := by omega
          have hnp1 : ¬ (wo.heap.size = wr.heap.size + 1) := by omega
          have hkp1 : wo.heap.size < wr.heap.size + 1 := by omega
          have hnp2 : ¬ (wo.heap.size = wr.heap.size + 1 + 1) := by omega
          have hkp2 : wo.heap.size < wr.heap.size + 1 + 1 := by omega
          have hna0 : ¬ (wo.heap.size + 1 = wr.heap.size) := by omega
          have hka1 : wo.heap.size < wr.heap.size := by omega
          have hnb0 : ¬ (wo.heap.size + 1 + 1 = wr.heap.size) := by omega
          have hkb1 : wo.heap.size + 1 < wr.heap.size := by omega
          have hnq10 : ¬ (w1.heap.size = wr.heap.size) := by omega
          have hnq11 : ¬ (w1.heap.size = wr.heap.size + 1) := by omega
          have hkq11 : w1.heap.size < wr.heap.size + 1 := by omega
          have hnq12 : ¬ (w1.heap.size = wr.heap.size + 1 + 1) := by omega
          have hkq12 : w1.heap.size < wr.heap.size + 1 + 1 := by omega
          have hnr0 : ¬ (w2.heap.size = wr.heap.size) := by omega
          have hnr1 : ¬ (w2.heap.size = wr.heap.size + 1) := by omega
          have hkr1 : w2.heap.size < wr.heap.size + 1 := by omega
          have hnr2 : ¬ (w2.heap.size = wr.heap.size + 1 + 1) := by omega
          have hkr2 : w2.heap.size < wr.heap.size + 1 + 1 := by omega
          have hns20 : ¬ (bs = wr.heap.size) := by omega
          have hns21 : ¬ (bs = wr.heap.size + 1) := by omega
          have hks21 : bs < wr.heap.size + 1 := by omega
          have hns22 : ¬ (bs = wr.heap.size + 1 + 1) := by omega
          have hks22 : bs < wr.heap.size + 1 + 1 := by omega
          go_wp2_with fail
          refine wp_region_plan (fun w' => w'.cell? ⟨wo.heap.size, 0, none⟩ = some (B8 x) ∧ w'.cell? ⟨wo.heap.size, 1, none⟩ = some (B8 t) ∧ w'.cell? ⟨wo.heap.size + 1, 0, none⟩ = some (.int .i64 xi) ∧ w'.cell? ⟨wo.heap.size + 1, 1, none⟩ = some (.bool xv) ∧ w'.cell? ⟨wo.heap.size + 1, 2, none⟩ = some (.bool xs) ∧ w'.cell? ⟨wo.heap.size + 1 + 1, 0, none⟩ = some (.int .i64 yi) ∧ w'.cell? ⟨wo.heap.size + 1 + 1, 1, none⟩ = some (.bool yv) ∧ w'.cell? ⟨wo.heap.size + 1 + 1, 2, none⟩ = some (.bool ys) ∧ w'.cell? ⟨w1.heap.size, 0, none⟩ = some (B8 x) ∧ w'.cell? ⟨w1.heap.size, 1, none⟩ = some (B8 t) ∧ w'.cell? ⟨w2.heap.size, 0, none⟩ = some (B8 R) ∧ w'.cell? ⟨w2.heap.size, 1, none⟩ = some (B8 RT) ∧ w'.cell? ⟨bs, 0, none⟩ = some (B8 R) ∧ w'.cell? ⟨bs, 1, none⟩ = some (B8 ST) ∧ Below w.heap.size w w') (by kernel_rfl) (by kernel_rfl) (by kernel_rfl) ?_ ?_
          · (try dsimp only)
            refine ⟨?_, ?_, ?_, ?_, ?_, ?_, ?_, ?_, ?_, ?_, ?_, ?_, ?_, ?_, ?_⟩ <;> first | (go_simp; done) | (simp [*]; done) | go_grown
          repeat (first
            | (refine Plan.val (v := ?_) ?_ ?_ ?_; rotate_left; (· rfl); (· (intro W hSw; (try dsimp only at hSw); go_simp; all_goals (first | (with_reducible rfl) | (constructor <;> (with_reducible rfl))))); (try simp only [Act.put, List.setIfInBounds_toArray, List.set_cons_zero, List.set_cons_succ]))
            | (refine Plan.no ?_ ?_; (· rfl); (try simp only [Act.put, List.setIfInBounds_toArray, List.set_cons_zero, List.set_cons_succ]))
            | (refine Plan.call (v := ?_) (f := ?_) (args := ?_) ?_ ?_ ?_ ?_; rotate_left 3; (· rfl); (· (intro W hSw; (try dsimp only at hSw); go_simp; all_goals (first | (with_reducible rfl) | (constructor <;> (with_reducible rfl))))); (· (intro W hSw; (try dsimp only at hSw); first | (go_at_call 8; ((with_reducible refine (H5.out _).mono ?_); rintro _ wz ⟨rfl, hb⟩; (refine ⟨?_, ?_⟩; (· with_reducible rfl); exact ⟨kc hb hSw.1, kc hb hSw.2.1, kc hb hSw.2.2.1, kc hb hSw.2.2.2.1, kc hb hSw.2.2.2.2.1, kc hb hSw.2.2.2.2.2.1, kc hb hSw.2.2.2.2.2.2.1, kc hb hSw.2.2.2.2.2.2.2.1, kc hb hSw.2.2.2.2.2.2.2.2.1, kc hb hSw.2.2.2.2.2.2.2.2.2.1, kc hb hSw.2.2.2.2.2.2.2.2.2.2.1, kc hb hSw.2.2.2.2.2.2.2.2.2.2.2.1, kc hb hSw.2.2.2.2.2.2.2.2.2.2.2.2.1, kc hb hSw.2.2.2.2.2.2.2.2.2.2.2.2.2.1, kb hSw.2.2.2.2.2.2.2.2.2.2.2.2.2.2 hb⟩))) | (go_at_call 10; ((with_reducible refine (HH.out _).mono ?_); rintro _ wz ⟨rfl, hb⟩; (refine ⟨?_, ?_⟩; (· with_reducible rfl); exact ⟨kc hb hSw.1, kc hb hSw.2.1, kc hb hSw.2.2.1, kc hb hSw.2.2.2.1, kc hb hSw.2.2.2.2.1, kc hb hSw.2.2.2.2.2.1, kc hb hSw.2.2.2.2.2.2.1, kc hb hSw.2.2.2.2.2.2.2.1, kc hb hSw.2.2.2.2.2.2.2.2.1, kc hb hSw.2.2.2.2.2.2.2.2.2.1, kc hb hSw.2.2.2.2.2.2.2.2.2.2.1, kc hb hSw.2.2.2.2.2.2.2.2.2.2.2.1, kc hb hSw.2.2.2.2.2.2.2.2.2.2.2.2.1, kc hb hSw.2.2.2.2.2.2.2.2.2.2.2.2.2.1, kb hSw.2.2.2.2.2.2.2.2.2.2.2.2.2.2 hb⟩))) | (go_at_call 17; ((with_reducible refine (awake_c _).mono ?_); rintro _ wz ⟨rfl, hb⟩; (refine ⟨?_, ?_⟩; (· with_reducible rfl); exact ⟨kc hb hSw.1, kc hb hSw.2.1, kc hb hSw.2.2.1, kc hb hSw.2.2.2.1, kc hb hSw.2.2.2.2.1, kc hb hSw.2.2.2.2.2.1, kc hb hSw.2.2.2.2.2.2.1, kc hb hSw.2.2.2.2.2.2.2.1, kc hb hSw.2.2.2.2.2.2.2.2.1, kc hb hSw.2.2.2.2.2.2.2.2.2.1, kc hb hSw.2.2.2.2.2.2.2.2.2.2.1, kc hb hSw.2.2.2.2.2.2.2.2.2.2.2.1, kc hb hSw.2.2.2.2.2.2.2.2.2.2.2.2.1, kc hb hSw.2.2.2.2.2.2.2.2.2.2.2.2.2.1, kb hSw.2.2.2.2.2.2.2.2.2.2.2.2.2.2 hb⟩))))); (try simp only [Act.put, List.setIfInBounds_toArray, List.set_cons_zero, List.set_cons_succ])))
          refine Plan.done ?_
          intro wz T
          (try dsimp only at T)
          have hBe := T.2.2.2.2.2.2.2.2.2.2.2.2.2.2
          go_wp2
          go_ret
          exact ⟨rfl, hBo.trans (hBe.mono hso)⟩
        · have _g := hbb
          have TT := T0.out
          rw [e1] at TT
          have h6 := H6.out
          rw [hQ1, hQ2] at TT h6
          have HH := Lib.hid h6
          clear h6
          obtain ⟨t0, t1, t2, t3, t4, t5, t6, t7, t8, t9, t10, t11, t12, t13⟩ := TT
          have T : wr.cell? ⟨wo.heap.size, 0, none⟩ = some (B8 x) ∧ wr.cell? ⟨wo.heap.size, 1, none⟩ = some (B8 t) ∧ wr.cell? ⟨wo.heap.size + 1, 0, none⟩ = some (.int .i64 xi) ∧ wr.cell? ⟨wo.heap.size + 1, 1, none⟩ = some (.bool xv) ∧ wr.cell? ⟨wo.heap.size + 1, 2, none⟩ = some (.bool xs) ∧ wr.cell? ⟨wo.heap.size + 1 + 1, 0, none⟩ = some (.int .i64 yi) ∧ wr.cell? ⟨wo.heap.size + 1 + 1, 1, none⟩ = some (.bool yv) ∧ wr.cell? ⟨wo.heap.size + 1 + 1, 2, none⟩ = some (.bool ys) ∧ wr.cell? ⟨w1.heap.size, 0, none⟩ = some (B8 x) ∧ wr.cell? ⟨w1.heap.size, 1, none⟩ = some (B8 t) ∧ wr.cell? ⟨w2.heap.size, 0, none⟩ = some (B8 R) ∧ wr.cell? ⟨w2.heap.size, 1, none⟩ = some (B8 RT) ∧ wr.cell? ⟨bs, 0, none⟩ = some (B8 R) ∧ wr.cell? ⟨bs, 1, none⟩ = some (B8 ST) ∧ Below w.heap.size w wr := ⟨t0, t1, t2, t3, t4, t5, t6, t7, t8, t9, t10, t11, t12, t13, hbb⟩
          clear t0 t1 t2 t3 t4 t5 t6 t7 t8 t9 t10 t11 t12 t13 T0
          clear hp_0 hp_1 ha_0 ha_1 ha_2 hb_0 hb_1 hb_2 hq_0 hq_1 hr_0 hr_1 hs_0 hs_1 hB hsz hlp hla hlb hlq hlr hls hnp0 hnp1 hkp1 hnp2 hkp2 hna0 hka1 hnb0 hkb1 hnq0 hnq1 hkq1 hnq2 hkq2 hnr0 hnr1 hkr1 hnr2 hkr2 hns0 hns1 hks1 hns2 hks2
          obtain ⟨hp_0, hp_1, ha_0, ha_1, ha_2, hb_0, hb_1, hb_2, hq1_0, hq1_1, hr_0, hr_1, hs2_0, hs2_1, hB⟩ := T
          have hsz := hB.size
          have hlp := klt hp_0
          have hla := klt ha_0
          have hlb := klt hb_0
          have hlq1 := klt hq1_0
          have hlr := klt hr_0
          have hls2 := klt hs2_0
          have hnp0 : ¬ (wo.heap.size = wr.heap.size) := by omega
          have hnp1 : ¬ (wo.heap.size = wr.heap.size + 1) := by omega
          have hkp1 : wo.heap.size < wr.heap.size + 1 := by omega
          have hnp2 : ¬ (wo.heap.size = wr.heap.size + 1 + 1) := by omega
          have hkp2 : wo.heap.size < wr.heap.size + 1 + 1 := by omega
          have hna0 : ¬ (wo.heap.size + 1 = wr.heap.size) := by omega
          have hka1 : wo.heap.size < wr.heap.size := by omega
          have hnb0 : ¬ (wo.heap.size + 1 + 1 = wr.heap.size) := by omega
          have hkb1 : wo.heap.size + 1 < wr.heap.size := by omega
          have hnq10 : ¬ (w1.heap.size = wr.heap.size) := by omega
          have hnq11 : ¬ (w1.heap.size = wr.heap.size + 1) := by omega
          have hkq11 : w1.heap.size < wr.heap.size + 1 := by omega
          have hnq12 : ¬ (w1.heap.size = wr.heap.size + 1 + 1) := by omega
          have hkq12 : w1.heap.size < wr.heap.size + 1 + 1 := by omega
          have hnr0 : ¬ (w2.heap.size = wr.heap.size) := by omega
          have hnr1 : ¬ (w2.heap.size = wr.heap.size + 1) := by omega
          have hkr1 : w2.heap.size < wr.heap.size + 1 := by omega
          have hnr2 : ¬ (w2.heap.size = wr.heap.size + 1 + 1) := by omega
          have hkr2 : w2.heap.size < wr.heap.size + 1 + 1 := by omega
          have hns20 : ¬ (bs = wr.heap.size) := by omega
          have hns21 : ¬ (bs = wr.heap.size + 1) := by omega
          have hks21 : bs < wr.heap.size + 1 := by omega
          have hns22 : ¬ (bs = wr.heap.size + 1 + 1) := by omega
          have hks22 : bs < wr.heap.size + 1 + 1 := by omega
          go_wp2_with fail
          refine wp_region_plan (fun w' => w'.cell? ⟨wo.heap.size, 0, none⟩ = some (B8 x) ∧ w'.cell? ⟨wo.heap.size, 1, none⟩ = some (B8 t) ∧ w'.cell? ⟨wo.heap.size + 1, 0, none⟩ = some (.int .i64 xi) ∧ w'.cell? ⟨wo.heap.size + 1, 1, none⟩ = some (.bool xv) ∧ w'.cell? ⟨wo.heap.size + 1, 2, none⟩ = some (.bool xs) ∧ w'.cell? ⟨wo.heap.size + 1 + 1, 0, none⟩ = some (.int .i64 yi) ∧ w'.cell? ⟨wo.heap.size + 1 + 1, 1, none⟩ = some (.bool yv) ∧ w'.cell? ⟨wo.heap.size + 1 + 1, 2, none⟩ = some (.bool ys) ∧ w'.cell? ⟨w1.heap.size, 0, none⟩ = some (B8 x) ∧ w'.cell? ⟨w1.heap.size, 1, none⟩ = some (B8 t) ∧ w'.cell? ⟨w2.heap.size, 0, none⟩ = some (B8 R) ∧ w'.cell? ⟨w2.heap.size, 1, none⟩ = some (B8 RT) ∧ w'.cell? ⟨bs, 0, none⟩ = some (B8 R) ∧ w'.cell? ⟨bs, 1, none⟩ = some (B8 ST) ∧ Below w.heap.size w w') (by kernel_rfl) (by kernel_rfl) (by kernel_rfl) ?_ ?_
          · (try dsimp only)
            refine ⟨?_, ?_, ?_, ?_, ?_, ?_, ?_, ?_, ?_, ?_, ?_, ?_, ?_, ?_, ?_⟩ <;> first | (go_simp; done) | (simp [*]; done) | go_grown
          repeat (first
            | (refine Plan.val (v := ?_) ?_ ?_ ?_; rotate_left; (· rfl); (· (intro W hSw; (try dsimp only at hSw); go_simp; all_goals (first | (with_reducible rfl) | (constructor <;> (with_reducible rfl))))); (try simp only [Act.put, List.setIfInBounds_toArray, List.set_cons_zero, List.set_cons_succ]))
            | (refine Plan.no ?_ ?_; (· rfl); (try simp only [Act.put, List.setIfInBounds_toArray, List.set_cons_zero, List.set_cons_succ]))
            | (refine Plan.call (v := ?_) (f := ?_) (args := ?_) ?_ ?_ ?_ ?_; rotate_left 3; (· rfl); (· (intro W hSw; (try dsimp only at hSw); go_simp; all_goals (first | (with_reducible rfl) | (constructor <;> (with_reducible rfl))))); (· (intro W hSw; (try dsimp only at hSw); first | (go_at_call 8; ((with_reducible refine (H5.out _).mono ?_); rintro _ wz ⟨rfl, hb⟩; (refine ⟨?_, ?_⟩; (· with_reducible rfl); exact ⟨kc hb hSw.1, kc hb hSw.2.1, kc hb hSw.2.2.1, kc hb hSw.2.2.2.1, kc hb hSw.2.2.2.2.1, kc hb hSw.2.2.2.2.2.1, kc hb hSw.2.2.2.2.2.2.1, kc hb hSw.2.2.2.2.2.2.2.1, kc hb hSw.2.2.2.2.2.2.2.2.1, kc hb hSw.2.2.2.2.2.2.2.2.2.1, kc hb hSw.2.2.2.2.2.2.2.2.2.2.1, kc hb hSw.2.2.2.2.2.2.2.2.2.2.2.1, kc hb hSw.2.2.2.2.2.2.2.2.2.2.2.2.1, kc hb hSw.2.2.2.2.2.2.2.2.2.2.2.2.2.1, kb hSw.2.2.2.2.2.2.2.2.2.2.2.2.2.2 hb⟩))) | (go_at_call 10; ((with_reducible refine (HH.out _).mono ?_); rintro _ wz ⟨rfl, hb⟩; (refine ⟨?_, ?_⟩; (· with_reducible rfl); exact ⟨kc hb hSw.1, kc hb hSw.2.1, kc hb hSw.2.2.1, kc hb hSw.2.2.2.1, kc hb hSw.2.2.2.2.1, kc hb hSw.2.2.2.2.2.1, kc hb hSw.2.2.2.2.2.2.1, kc hb hSw.2.2.2.2.2.2.2.1, kc hb hSw.2.2.2.2.2.2.2.2.1, kc hb hSw.2.2.2.2.2.2.2.2.2.1, kc hb hSw.2.2.2.2.2.2.2.2.2.2.1, kc hb hSw.2.2.2.2.2.2.2.2.2.2.2.1, kc hb hSw.2.2.2.2.2.2.2.2.2.2.2.2.1, kc hb hSw.2.2.2.2.2.2.2.2.2.2.2.2.2.1, kb hSw.2.2.2.2.2.2.2.2.2.2.2.2.2.2 hb⟩))) | (go_at_call 17; ((with_reducible refine (awake_c _).mono ?_); rintro _ wz ⟨rfl, hb⟩; (refine ⟨?_, ?_⟩; (· with_reducible rfl); exact ⟨kc hb hSw.1, kc hb hSw.2.1, kc hb hSw.2.2.1, kc hb hSw.2.2.2.1, kc hb hSw.2.2.2.2.1, kc hb hSw.2.2.2.2.2.1, kc hb hSw.2.2.2.2.2.2.1, kc hb hSw.2.2.2.2.2.2.2.1, kc hb hSw.2.2.2.2.2.2.2.2.1, kc hb hSw.2.2.2.2.2.2.2.2.2.1, kc hb hSw.2.2.2.2.2.2.2.2.2.2.1, kc hb hSw.2.2.2.2.2.2.2.2.2.2.2.1, kc hb hSw.2.2.2.2.2.2.2.2.2.2.2.2.1, kc hb hSw.2.2.2.2.2.2.2.2.2.2.2.2.2.1, kb hSw.2.2.2.2.2.2.2.2.2.2.2.2.2.2 hb⟩))))); (try simp only [Act.put, List.setIfInBounds_toArray, List.set_cons_zero, List.set_cons_succ])))
          refine Plan.done ?_
          intro wz T
          (try dsimp only at T)
          have hBe := T.2.2.2.2.2.2.2.2.2.2.2.2.2.2
          go_wp2
          go_ret
          exact ⟨rfl, hBo.trans (hBe.mono hso)⟩

theorem getI_setI_i (x : BitVec 8) (i : Int) (k : Nat) (b : Bool) (hk : k < 8) (h : (k : Int) = i) : getI (setI x i b) k = b := by
  subst h
  rw [getI_setI x k k b hk hk, if_pos rfl]
theorem getI_setI_ne (x : BitVec 8) (i : Int) (k : Nat) (b : Bool) (hk : k < 8) (h : (k : Int) ≠ i) : getI (setI x i b) k = getI x k := by
  rcases place i with ⟨n, rfl, hn⟩ | ho
  · rw [getI_setI x n k b hn hk, if_neg (by omega)]
  · rw [setI_out x i b ho]
theorem ext_getI {x y : BitVec 8} (h : ∀ k : Nat, k < 8 → getI x k = getI y k) : x = y := by
  apply BitVec.eq_of_getLsbD_eq
  intro k hk
  have := h k hk
  rw [getI_nat x k hk, getI_nat y k hk] at this
  exact this
theorem setI_com (x : BitVec 8) (i j : Int) (a b : Bool) (h : i ≠ j) : setI (setI x j b) i a = setI (setI x i a) j b := by
  refine ext_getI fun k hk => ?_
  by_cases h1 : (k : Int) = i
  · rw [getI_setI_i _ i k a hk h1, getI_setI_ne _ j k b hk (by omega), getI_setI_i _ i k a hk h1]
  · by_cases h2 : (k : Int) = j
    · rw [getI_setI_ne _ i k a hk h1, getI_setI_i _ j k b hk h2, getI_setI_i _ j k b hk h2]
    · rw [getI_setI_ne _ i k a hk h1, getI_setI_ne _ j k b hk h2, getI_setI_ne _ j k b hk h2, getI_setI_ne _ i k a hk h1]
theorem setI_back (x : BitVec 8) (i : Int) (a : Bool) : setI (setI x i a) i (getI x i) = x := by
  refine ext_getI fun k hk => ?_
  by_cases h1 : (k : Int) = i
  · rw [getI_setI_i _ i k _ hk h1, h1]
  · rw [getI_setI_ne _ i k _ hk h1, getI_setI_ne _ i k a hk h1]

theorem sets_walk (x t : BitVec 8) (xi : Int) (xv xs : Bool) (yi : Int) (yv ys : Bool) (w : World) :
    Calls Tryd.prog 7 #[TB x t, .agg #[.int .i64 xi, .bool xv, .bool xs], .agg #[.int .i64 yi, .bool yv, .bool ys]] w (LawEnd w) := by
  refine sets_walk' x t (setI x xi xv) (setI t xi xs) (setI (setI x xi xv) yi yv) (setI (setI t xi xs) yi ys) (setI x yi yv) (setI t yi ys) (setI (setI x yi yv) xi xv) (setI (setI t yi ys) xi xs) xi yi xv xs yv ys (getI x xi) (getI t xi)
    (fun w => set_i x t xi xv xs w) (fun w => set_i _ _ yi yv ys w) (fun w => set_i x t yi yv ys w) (fun w => set_i _ _ xi xv xs w) (fun w => get_i x t xi w) (fun w => ?_)
    (fun k hk h => ⟨getI_setI_i x xi k xv hk h, getI_setI_i t xi k xs hk h⟩) (fun k hk h => ⟨getI_setI_ne x xi k xv hk h, getI_setI_ne t xi k xs hk h⟩) ?_ ?_ w
  · have := set_i (setI x xi xv) (setI t xi xs) xi (getI x xi) (getI t xi) w
    rw [setI_back, setI_back] at this
    exact this
  · by_cases h : xi = yi
    · exact .inl h
    · exact .inr ⟨setI_com x xi yi xv yv h, setI_com t xi yi xs ys h⟩
  · rcases place xi with ⟨n, rfl, hn⟩ | ho
    · exact .inl ⟨by omega, by omega⟩
    · exact .inr ⟨setI_out x xi xv ho, setI_out t xi xs ho⟩
end Go.Proofs.YtdpoonmgailonaaDoor
