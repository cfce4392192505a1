/-
  LabelsNil: its walk.
-/
import Derived.Test.YtcilnbkmaoneaaaDoorLoads9
import Derived.Test.YtcilnbkmaoneaaaDoorFin9
import Derived.Test.YtcilnbkmaoneaaaDoorSame
set_option linter.unusedSimpArgs false
set_option linter.unusedVariables false
namespace Go.Proofs.YtcilnbkmaoneaaaDoor
open Go.RowKit Go.PlainAid Go.Shelf
attribute [local go_sem] Oper.semAt_some

set_option maxRecDepth 100000 in
theorem polnv_c (w : World) : Calls Tryd.prog 21 #[.pointer none] w fun e w' => e = .returned (.agg #[.slice none 0 0, .slice none 0 0, .int .i64 0, .int .i64 0]) ∧ Below w.heap.size w w' := by
  go_enter Tryd.func21, Tryd.ntmps21
  go_wp2
  refine bodyPost_ret (v := .agg #[.slice none 0 0, .slice none 0 0, .int .i64 0, .int .i64 0]) (by simp [results, Tryd.results21, go_sem] <;> first | done | rfl) rfl ⟨rfl, by go_grown⟩
theorem and_zero9 (x : Int) (hx : 0 ≤ x ∧ x ≤ 255) : bits .and .u8 x 0 = 0 := by
  obtain ⟨a, rfl⟩ := u8_of x hx.1 (by have := hx.2; omega)
  rw [← u8_zero, u8_and, BitVec.and_zero]
theorem same_none : decide (sortP noneP = sortP noneP) = true := by simp
set_option maxRecDepth 100000 in
set_option maxHeartbeats 16000000 in
theorem nil_in9 (P : Pol) (hb8 : Bits P) (v : Value) (a : Int) (bv bt : Int) (hbt : 0 ≤ bt ∧ bt ≤ 255) (w : World) (hv : HoldsP w v P) (hL : Laid w) :
    CallsIn Fence.wide 4 Tryd.prog 5 #[v, .int .i64 a, .agg #[.int .u8 bv, .int .u8 bt]] w (LawEnd w) := by
  have HFW := Lib.hid (fun W (hb : Below w.heap.size w W) => few7_c P v W (hv.below hb))
  have HV := Lib.hid hv
  have hlt0 := hL.lt
  clear hL
  obtain ⟨v1, v2, rfl, h1, h2⟩ := hv
  refine callsIn_of_wp_marks Tryd.func5 rfl trivial ?_ rfl
  simp only [Tryd.ntmps5, List.size_toArray, List.length_cons, List.length_nil, Nat.reduceAdd, Nat.reduceSub, Array.replicate_succ, Array.replicate_zero, List.push_toArray, List.append_toArray, List.nil_append, List.cons_append]
  refine wpIn_wide.2 ?_
  by_cases hF : P.s.length ≤ 80 ∧ P.k.length ≤ 80
  case neg =>
    have e : (decide (P.s.length ≤ 80) && decide (P.k.length ≤ 80)) = false := by
      cases hh : (decide (P.s.length ≤ 80) && decide (P.k.length ≤ 80))
      · rfl
      · simp only [Bool.and_eq_true, decide_eq_true_eq] at hh; exact absurd hh hF
    rw [e] at HFW
    clear h1 h2 hF e
    go_wp2_with fail
    ((with_reducible refine (HFW.out _ (by go_grown)).mono ?_); rintro _ u1 ⟨rfl, hb⟩)
    have T : CC u1 w.heap.size 0 1 (v1) (v2) ∧ CC u1 w.heap.size 2 3 (.int .i64 P.d) (.int .i64 P.t) ∧ CF u1 (w.heap.size + 1 + 1) 0 (.bool false) := by
        refine ⟨⟨?_, ?_⟩, ⟨?_, ?_⟩, ⟨?_, ?_⟩⟩ <;> first | (refine kc hb ?_ <;> (go_simp; first | done | rfl)) | (refine kfz hb ?_ ?_ <;> first | (go_size; done) | (go_simp; done))
    have hz := hb.size
    (try simp only [World.size_alloc, World.size_setCell, World.size_drew] at hz)
    have L : w.heap.size < u1.heap.size ∧ w.heap.size + 1 + 1 < u1.heap.size := by omega
    have hB' : Below w.heap.size w u1 := by
        refine kb ?_ hb
        go_grown
    clear hb hz
    obtain ⟨⟨hp_0, hp_1⟩, ⟨hp_2, hp_3⟩, ⟨hr_0, fr_0⟩⟩ := T
    obtain ⟨hlp, hlr⟩ := L
    obtain ⟨hnp0, hnp1, hkp1, hnp2, hkp2⟩ := ap0 hlp
    have hnr0 : ¬ (w.heap.size + 1 + 1 = u1.heap.size) := by omega
    have hnr1 : ¬ (w.heap.size + 1 = u1.heap.size) := by omega
    have hkr1 : w.heap.size + 1 < u1.heap.size := by omega
    have hkr2 : w.heap.size < u1.heap.size := by omega
    have hB := hB'; clear hB'
    have hsz := hB.size
    go_wp2_with fail
    ((with_reducible refine (awake9_c _).mono ?_); rintro _ u2 ⟨rfl, hb⟩)
    have T : CC u2 w.heap.size 0 1 (v1) (v2) ∧ CC u2 w.heap.size 2 3 (.int .i64 P.d) (.int .i64 P.t) ∧ CF u2 (w.heap.size + 1 + 1) 0 (.bool false) := by
        refine ⟨⟨?_, ?_⟩, ⟨?_, ?_⟩, ⟨?_, ?_⟩⟩ <;> first | (refine kc hb ?_ <;> (go_simp; first | done | rfl)) | (refine kfz hb ?_ ?_ <;> first | (go_size; done) | (go_simp; done))
    have hz := hb.size
    (try simp only [World.size_alloc, World.size_setCell, World.size_drew] at hz)
    have L : w.heap.size < u2.heap.size ∧ w.heap.size + 1 + 1 < u2.heap.size := by omega
    have hB' : Below w.heap.size w u2 := by
        refine kb ?_ hb
        go_grown
    clear hp_0 hp_1 hp_2 hp_3 hr_0 fr_0 hlp hlr hnp0 hnp1 hkp1 hnp2 hkp2 hnr0 hnr1 hkr1 hkr2 hB hsz
    clear hb hz
    obtain ⟨⟨hp_0, hp_1⟩, ⟨hp_2, hp_3⟩, ⟨hr_0, fr_0⟩⟩ := T
    obtain ⟨hlp, hlr⟩ := L
    obtain ⟨hnp0, hnp1, hkp1, hnp2, hkp2⟩ := ap0 hlp
    have hnr0 : ¬ (w.heap.size + 1 + 1 = u2.heap.size) := by omega
    have hnr1 : ¬ (w.heap.size + 1 = u2.heap.size) := by omega
    have hkr1 : w.heap.size + 1 < u2.heap.size := by omega
    have hkr2 : w.heap.size < u2.heap.size := by omega
    have hB := hB'; clear hB'
    have hsz := hB.size
    go_wp2
    refine ⟨.bool true, ?_, rfl, hB.setCell (p := ⟨w.heap.size + 1 + 1, 0, none⟩) (by show w.heap.size ≤ w.heap.size + 1 + 1; omega) _⟩
    have d3 : (u2.setCell ⟨w.heap.size + 1 + 1, 0, none⟩ (.bool true)).cell? ⟨w.heap.size + 1 + 1, 0, none⟩ = some (.bool true) := by go_simp
    simp [results, Tryd.results5, go_sem, d3]
  case pos =>
    have e : (decide (P.s.length ≤ 80) && decide (P.k.length ≤ 80)) = true := by simp only [Bool.and_eq_true, decide_eq_true_eq]; exact hF
    rw [e] at HFW
    have hl : P.s.length ≤ 1000 ∧ P.k.length ≤ 1000 := by omega
    have HHL := Lib.hid hl
    have HB8 := Lib.hid hb8
    clear h1 h2 hF e hl hb8
    go_wp2_with fail
    ((with_reducible refine (HFW.out _ (by go_grown)).mono ?_); rintro _ u1 ⟨rfl, hb⟩)
    have T : CC u1 w.heap.size 0 1 (v1) (v2) ∧ CC u1 w.heap.size 2 3 (.int .i64 P.d) (.int .i64 P.t) ∧ CC u1 (w.heap.size + 1) 0 1 (.int .u8 bv) (.int .u8 bt) ∧ CF u1 (w.heap.size + 1 + 1) 0 (.bool false) := by
        refine ⟨⟨?_, ?_⟩, ⟨?_, ?_⟩, ⟨?_, ?_⟩, ⟨?_, ?_⟩⟩ <;> first | (refine kc hb ?_ <;> (go_simp; first | done | rfl)) | (refine kfz hb ?_ ?_ <;> first | (go_size; done) | (go_simp; done))
    have hz := hb.size
    (try simp only [World.size_alloc, World.size_setCell, World.size_drew] at hz)
    have L : w.heap.size < u1.heap.size ∧ w.heap.size + 1 < u1.heap.size ∧ w.heap.size + 1 + 1 < u1.heap.size := by omega
    have hB' : Below w.heap.size w u1 := by
        refine kb ?_ hb
        go_grown
    clear hb hz
    obtain ⟨⟨hp_0, hp_1⟩, ⟨hp_2, hp_3⟩, ⟨hb_0, hb_1⟩, ⟨hr_0, fr_0⟩⟩ := T
    obtain ⟨hlp, hlb, hlr⟩ := L
    obtain ⟨hnp0, hnp1, hkp1, hnp2, hkp2⟩ := ap0 hlp
    obtain ⟨hnb0, hkb1⟩ := ap1 hlb
    have hnr0 : ¬ (w.heap.size + 1 + 1 = u1.heap.size) := by omega
    have hkr1 : w.heap.size + 1 < u1.heap.size := by omega
    have hB := hB'; clear hB'
    have hsz := hB.size
    go_wp2_with fail
    ((with_reducible refine (new_x _ (by omega)).mono ?_); rintro _ u2 ⟨mb, bb, rfl, hb, hP, hmb, hbb⟩)
    have hs_u2 := Lib.hid hb
    have T : CC u2 w.heap.size 0 1 (v1) (v2) ∧ CC u2 w.heap.size 2 3 (.int .i64 P.d) (.int .i64 P.t) ∧ CC u2 (w.heap.size + 1) 0 1 (.int .u8 bv) (.int .u8 bt) ∧ CF u2 (w.heap.size + 1 + 1) 0 (.bool false) := by
        refine ⟨⟨?_, ?_⟩, ⟨?_, ?_⟩, ⟨?_, ?_⟩, ⟨?_, ?_⟩⟩ <;> first | (refine kc hb ?_ <;> (go_simp; first | done | rfl)) | (refine kfz hb ?_ ?_ <;> first | (go_size; done) | (go_simp; done))
    have hz := hb.size
    (try simp only [World.size_alloc, World.size_setCell, World.size_drew] at hz)
    have L : w.heap.size < u2.heap.size ∧ w.heap.size + 1 < u2.heap.size ∧ w.heap.size + 1 + 1 < u2.heap.size := by omega
    have hB' : Below w.heap.size w u2 := by
        refine kb ?_ hb
        go_grown
    clear hp_0 hp_1 hp_2 hp_3 hb_0 hb_1 hr_0 fr_0 hlp hlb hlr hnp0 hnp1 hkp1 hnp2 hkp2 hnb0 hkb1 hnr0 hkr1 hB hsz
    clear hb hz
    obtain ⟨⟨hp_0, hp_1⟩, ⟨hp_2, hp_3⟩, ⟨hb_0, hb_1⟩, ⟨hr_0, fr_0⟩⟩ := T
    obtain ⟨hlp, hlb, hlr⟩ := L
    obtain ⟨hnp0, hnp1, hkp1, hnp2, hkp2⟩ := ap0 hlp
    obtain ⟨hnb0, hkb1⟩ := ap1 hlb
    have hnr0 : ¬ (w.heap.size + 1 + 1 = u2.heap.size) := by omega
    have hkr1 : w.heap.size + 1 < u2.heap.size := by omega
    have hB := hB'; clear hB'
    have hsz := hB.size
    have HP2 := Lib.hid hP
    clear hP
    go_wp2_with fail
    ((with_reducible refine (all_c none _).mono ?_); rintro _ u3 ⟨B, rfl, hb, hBc, hB1, hB2⟩)
    have hs_u3 := Lib.hid hb
    have T : CC u3 w.heap.size 0 1 (v1) (v2) ∧ CC u3 w.heap.size 2 3 (.int .i64 P.d) (.int .i64 P.t) ∧ CC u3 (w.heap.size + 1) 0 1 (.int .u8 bv) (.int .u8 bt) ∧ CF u3 (w.heap.size + 1 + 1) 0 (.bool false) := by
        refine ⟨⟨?_, ?_⟩, ⟨?_, ?_⟩, ⟨?_, ?_⟩, ⟨?_, ?_⟩⟩ <;> first | (refine kc hb ?_ <;> (go_simp; first | done | rfl)) | (refine kfz hb ?_ ?_ <;> first | (go_size; done) | (go_simp; done))
    have hz := hb.size
    (try simp only [World.size_alloc, World.size_setCell, World.size_drew] at hz)
    have L : w.heap.size < u3.heap.size ∧ w.heap.size + 1 < u3.heap.size ∧ w.heap.size + 1 + 1 < u3.heap.size := by omega
    have hB' : Below w.heap.size w u3 := by
        refine kb ?_ hb
        go_grown
    clear hp_0 hp_1 hp_2 hp_3 hb_0 hb_1 hr_0 fr_0 hlp hlb hlr hnp0 hnp1 hkp1 hnp2 hkp2 hnb0 hkb1 hnr0 hkr1 hB hsz
    clear hb hz
    obtain ⟨⟨hp_0, hp_1⟩, ⟨hp_2, hp_3⟩, ⟨hb_0, hb_1⟩, ⟨hr_0, fr_0⟩⟩ := T
    obtain ⟨hlp, hlb, hlr⟩ := L
    obtain ⟨hnp0, hnp1, hkp1, hnp2, hkp2⟩ := ap0 hlp
    obtain ⟨hnb0, hkb1⟩ := ap1 hlb
    have hnr0 : ¬ (w.heap.size + 1 + 1 = u3.heap.size) := by omega
    have hkr1 : w.heap.size + 1 < u3.heap.size := by omega
    have hB := hB'; clear hB'
    have hsz := hB.size
    have HP3 := Lib.hid (HP2.out.below hs_u3.out)
    have HBc := Lib.hid hBc
    have q0 := fun W => all_not_nil B W
    unfold allF at q0 ⊢
    clear hBc HP2
    have HB3 := Lib.hid hB
    have HCL := Lib.hid (And.intro hp_0 (And.intro hp_1 (And.intro hp_2 (And.intro hp_3 (And.intro hb_0 (And.intro hb_1 (And.intro hr_0 fr_0)))))))
    go_wp2_with fail
    refine (wpIn_wide (n := 4)).1 ?_
    refine wpIn_rangeFunc_ownH rfl (by decide) (gf := 35) (lb := #[.pointer (some ⟨B, 0, none⟩)]) rfl trivial (enters_of Tryd.func35 (by kernel_rfl) rfl)
      (alln_stops (4 - 1) (by decide) B nilF (Below u3.heap.size) u3 HBc.out) belowK_t (belowK_b (Nat.le_refl _)) (Below.refl _ _) (fun _ => rfl)
      (fun pre W => Below u3.heap.size u3 W)
      (fun c pre W => False)
      (ownFrom_below (Nat.le_refl _) (Nat.le_refl _))
      (fun c => fun _ _ _ _ h _ _ => h)
      (Below.refl _ _)
      (fun x a' W => True) (fun x a' _ _ _ _ _ _ _ => trivial)
      ?assign ?body ?done ?stop
    case assign => exact fun l pre x => absurd rfl x.2.2
    case body => exact fun l pre x => absurd rfl x.2.2
    case stop => exact fun D c pre W _ h => h.elim
    case done =>
      rintro Dd xs W hDd rfl hW hK
      have HF := Lib.hid (show FinR w (w.heap.size + 1 + 1) Dd (.bool false) W from ⟨kc hW HCL.out.2.2.2.2.2.2.1, kfz hW (klt HCL.out.2.2.2.2.2.2.1) HCL.out.2.2.2.2.2.2.2, hK, kb HB3.out hW⟩)
      have yp_0 := kc hW HCL.out.1
      have yp_1 := kc hW HCL.out.2.1
      have yp_2 := kc hW HCL.out.2.2.1
      have yp_3 := kc hW HCL.out.2.2.2.1
      have yb_0 := kc hW HCL.out.2.2.2.2.1
      have yb_1 := kc hW HCL.out.2.2.2.2.2.1
      have HPW := Lib.hid (HP3.out.below hW)
      have hDw : w.heap.size ≤ Dd := by omega
      have hlp : w.heap.size < W.heap.size := klt yp_0
      have hlb : w.heap.size + 1 < W.heap.size := klt yb_0
      have HBW := Lib.hid HF.out.b
      have hAZ := and_zero9 bt hbt
      have HLK := Lib.hid (fun U => leaks9_c none 0 a bv bt U (fun W' _ => sinkn9_c a W'))
      rw [hAZ] at HLK
      have HSN := Lib.hid (fun U => same_c noneP noneP (by decide) (by decide) (.agg #[.slice none 0 0, .slice none 0 0, .int .i64 0, .int .i64 0]) (.agg #[.slice none 0 0, .slice none 0 0, .int .i64 0, .int .i64 0]) U ⟨_, _, rfl, HoldsE.nil _, HoldsE.nil _⟩ ⟨_, _, rfl, HoldsE.nil _, HoldsE.nil _⟩)
      rw [same_none] at HSN
      have hoo : bits .or .u8 0 0 = 0 := rfl
      clear hW hK hAZ q0 hbt
      clear hp_0 hp_1 hp_2 hp_3 hb_0 hb_1 hr_0 fr_0 hB hsz
      have hB : Below W.heap.size W W := Below.refl _ _
      have hsz := hB.size
      have hp_0 := yp_0
      have hp_1 := yp_1
      have hp_2 := yp_2
      have hp_3 := yp_3
      have hb_0 := yb_0
      have hb_1 := yb_1
      clear yp_0 yp_1 yp_2 yp_3 yb_0 yb_1
      go_upto_region 11 with fail
      refine wp_region_plan (fun w' => w'.cell? ⟨w.heap.size, 0, none⟩ = some (v1) ∧ w'.cell? ⟨w.heap.size, 1, none⟩ = some (v2) ∧ w'.cell? ⟨w.heap.size, 2, none⟩ = some (.int .i64 P.d) ∧ w'.cell? ⟨w.heap.size, 3, none⟩ = some (.int .i64 P.t) ∧ w'.cell? ⟨w.heap.size + 1, 0, none⟩ = some (.int .u8 bv) ∧ w'.cell? ⟨w.heap.size + 1, 1, none⟩ = some (.int .u8 bt) ∧ Below W.heap.size W w') (by kernel_rfl) (by kernel_rfl) (by kernel_rfl) ?_ ?_
      · (try dsimp only)
        refine ⟨?_, ?_, ?_, ?_, ?_, ?_, ?_⟩ <;> first | (go_simp; done) | (simp [*]; done) | go_grown
      repeat (first
        | (refine Plan.val (v := ?_) ?_ ?_ ?_; rotate_left; (· rfl); (· (intro W hSw; (try dsimp only at hSw); go_simp; all_goals (first | (with_reducible rfl) | (constructor <;> (with_reducible rfl)) | (rw [if_neg (by omega)]; done) | (rw [if_neg (by omega)]; with_reducible rfl)))); (try simp only [Act.put, List.setIfInBounds_toArray, List.set_cons_zero, List.set_cons_succ]))
        | (refine Plan.no ?_ ?_; (· rfl); (try simp only [Act.put, List.setIfInBounds_toArray, List.set_cons_zero, List.set_cons_succ]))
        | (refine Plan.call (v := ?_) (f := ?_) (args := ?_) ?_ ?_ ?_ ?_; rotate_left 3; (· rfl); (· (intro W hSw; (try dsimp only at hSw); go_simp; all_goals (first | (with_reducible rfl) | (constructor <;> (with_reducible rfl)) | (rw [if_neg (by omega)]; done) | (rw [if_neg (by omega)]; with_reducible rfl)))); (· (intro W hSw; (try dsimp only at hSw); first | (go_at_call 21; ((with_reducible refine (polnv_c _).mono ?_); rintro _ wz ⟨rfl, hb⟩; (refine ⟨?_, ?_⟩; (· with_reducible rfl); exact ⟨kc hb hSw.1, kc hb hSw.2.1, kc hb hSw.2.2.1, kc hb hSw.2.2.2.1, kc hb hSw.2.2.2.2.1, kc hb hSw.2.2.2.2.2.1, kb hSw.2.2.2.2.2.2 hb⟩))) | (go_at_call 20; ((with_reducible refine (HSN.out _).mono ?_); rintro _ wz ⟨rfl, hb⟩; (refine ⟨?_, ?_⟩; (· with_reducible rfl); exact ⟨kc hb hSw.1, kc hb hSw.2.1, kc hb hSw.2.2.1, kc hb hSw.2.2.2.1, kc hb hSw.2.2.2.2.1, kc hb hSw.2.2.2.2.2.1, kb hSw.2.2.2.2.2.2 hb⟩))) | (go_at_call 16; ((with_reducible refine (secretn9_c a _).mono ?_); rintro _ wz ⟨rfl, hb⟩; (refine ⟨?_, ?_⟩; (· with_reducible rfl); exact ⟨kc hb hSw.1, kc hb hSw.2.1, kc hb hSw.2.2.1, kc hb hSw.2.2.2.1, kc hb hSw.2.2.2.2.1, kc hb hSw.2.2.2.2.2.1, kb hSw.2.2.2.2.2.2 hb⟩))) | (go_at_call 22; ((with_reducible refine (sinkn9_c a _).mono ?_); rintro _ wz ⟨rfl, hb⟩; (refine ⟨?_, ?_⟩; (· with_reducible rfl); exact ⟨kc hb hSw.1, kc hb hSw.2.1, kc hb hSw.2.2.1, kc hb hSw.2.2.2.1, kc hb hSw.2.2.2.2.1, kc hb hSw.2.2.2.2.2.1, kb hSw.2.2.2.2.2.2 hb⟩))) | (go_at_call 23; ((with_reducible refine (HLK.out _).mono ?_); rintro _ wz ⟨rfl, hb⟩; (refine ⟨?_, ?_⟩; (· with_reducible rfl); exact ⟨kc hb hSw.1, kc hb hSw.2.1, kc hb hSw.2.2.1, kc hb hSw.2.2.2.1, kc hb hSw.2.2.2.2.1, kc hb hSw.2.2.2.2.2.1, kb hSw.2.2.2.2.2.2 hb⟩))) | (go_at_call 12; ((with_reducible refine (layn_c _ _).mono ?_); rintro _ wz ⟨rfl, hb⟩; (refine ⟨?_, ?_⟩; (· with_reducible rfl); exact ⟨kc hb hSw.1, kc hb hSw.2.1, kc hb hSw.2.2.1, kc hb hSw.2.2.2.1, kc hb hSw.2.2.2.2.1, kc hb hSw.2.2.2.2.2.1, kb hSw.2.2.2.2.2.2 hb⟩))) | (go_at_call 13; ((with_reducible refine (lown_c none _ _ (.inl rfl) _).mono ?_); rintro _ wz ⟨rfl, hb⟩; (refine ⟨?_, ?_⟩; (· with_reducible rfl); exact ⟨kc hb hSw.1, kc hb hSw.2.1, kc hb hSw.2.2.1, kc hb hSw.2.2.2.1, kc hb hSw.2.2.2.2.1, kc hb hSw.2.2.2.2.2.1, kb hSw.2.2.2.2.2.2 hb⟩))))); (try simp only [Act.put, List.setIfInBounds_toArray, List.set_cons_zero, List.set_cons_succ])))
      refine Plan.done ?_
      intro y1 T
      (try dsimp only at T)
      obtain ⟨hp_0, hp_1, hp_2, hp_3, hb_0, hb_1, hB⟩ := T
      have hsz := hB.size
      have hlp := klt hp_0
      have hlb := klt hb_0
      obtain ⟨hnp0, hnp1, hkp1, hnp2, hkp2⟩ := ap0 hlp
      obtain ⟨hnb0, hkb1⟩ := ap1 hlb
      by_cases hc : checkM P = 0
      case neg =>
        have HNW := Lib.hid (fun U (hb : Below W.heap.size W U) => newt_bad P HHL.out _ U (HV.out.below (kb HBW.out hb)) hc)
        generalize checkM P = E at *
        have e1 : (E == 0) = false := by simpa using hc
        have e2 : (E != 0) = true := by simp [bne, e1]
        clear hc
        go_wp2_with fail
        ((with_reducible refine (HNW.out _ hB).mono ?_); rintro _ y2 ⟨rfl, hb⟩)
        have hz := hb.size
        (try simp only [World.size_alloc, World.size_setCell, World.size_drew] at hz)
        have hB' : Below W.heap.size W y2 := by
            refine kb ?_ hb
            go_grown
        clear hp_0 hp_1 hp_2 hp_3 hb_0 hb_1 hB hsz hlp hlb hnp0 hnp1 hkp1 hnp2 hkp2 hnb0 hkb1
        clear hb hz
        have hB := hB'; clear hB'
        have hsz := hB.size
        go_wp2_with fail
        ((with_reducible refine (awake9_c _).mono ?_); rintro _ y3 ⟨rfl, hb⟩)
        have hz := hb.size
        (try simp only [World.size_alloc, World.size_setCell, World.size_drew] at hz)
        have hB' : Below W.heap.size W y3 := by
            refine kb ?_ hb
            go_grown
        clear hB hsz
        clear hb hz
        have hB := hB'; clear hB'
        have hsz := hB.size
        have HFn := Lib.hid (HF.out.below hB)
        have hc9 := HFn.out.c
        have hf9 := HFn.out.f
        clear HF hB
        go_wp2
        have HF3 := HFn.out.set (by omega) (.bool true)
        obtain ⟨d3, hB3⟩ := HF3.over hDw
        exact ⟨by simp, .inl ⟨_, _, rfl, run_takeDeferred HF3.d, .bool true, by simp [results, Tryd.results5, go_sem, d3], rfl, hB3⟩⟩
      case pos =>
        have HNW := Lib.hid (fun U (hb : Below W.heap.size W U) => newt_good P HHL.out _ U (HV.out.below (kb HBW.out hb)) hc)
        clear hc
        go_wp2_with fail
        ((with_reducible refine (HNW.out _ hB).mono ?_); rintro _ y2 ⟨tb, rfl, hb, hT, htb⟩)
        have hs_y2 := Lib.hid hb
        have hz := hb.size
        (try simp only [World.size_alloc, World.size_setCell, World.size_drew] at hz)
        have hB' : Below W.heap.size W y2 := by
            refine kb ?_ hb
            go_grown
        clear hp_0 hp_1 hp_2 hp_3 hb_0 hb_1 hB hsz hlp hlb hnp0 hnp1 hkp1 hnp2 hkp2 hnb0 hkb1
        clear hb hz
        have hB := hB'; clear hB'
        have hsz := hB.size
        clear hT htb
        go_wp2_with fail
        ((with_reducible refine (laynm_c ⟨tb, 0, none⟩ _).mono ?_); rintro _ y3 ⟨rfl, hb⟩)
        have hz := hb.size
        (try simp only [World.size_alloc, World.size_setCell, World.size_drew] at hz)
        have hB' : Below W.heap.size W y3 := by
            refine kb ?_ hb
            go_grown
        clear hB hsz
        clear hb hz
        have hB := hB'; clear hB'
        have hsz := hB.size
        go_wp2_with fail
        ((with_reducible refine (lown_c _ _ _ (.inr (.inl rfl)) _).mono ?_); rintro _ y4 ⟨rfl, hb⟩)
        have hz := hb.size
        (try simp only [World.size_alloc, World.size_setCell, World.size_drew] at hz)
        have hB' : Below W.heap.size W y4 := by
            refine kb ?_ hb
            go_grown
        clear hB hsz
        clear hb hz
        have hB := hB'; clear hB'
        have hsz := hB.size
        go_wp2_with fail
        ((with_reducible refine (lown_c _ _ _ (.inr (.inr rfl)) _).mono ?_); rintro _ y5 ⟨rfl, hb⟩)
        have hz := hb.size
        (try simp only [World.size_alloc, World.size_setCell, World.size_drew] at hz)
        have hB' : Below W.heap.size W y5 := by
            refine kb ?_ hb
            go_grown
        clear hB hsz
        clear hb hz
        have hB := hB'; clear hB'
        have hsz := hB.size
        go_wp2_with fail
        ((with_reducible refine (lown_c _ _ _ (.inr (.inl rfl)) _).mono ?_); rintro _ y6 ⟨rfl, hb⟩)
        have hz := hb.size
        (try simp only [World.size_alloc, World.size_setCell, World.size_drew] at hz)
        have hB' : Below W.heap.size W y6 := by
            refine kb ?_ hb
            go_grown
        clear hB hsz
        clear hb hz
        have hB := hB'; clear hB'
        have hsz := hB.size
        go_wp2_with fail
        ((with_reducible refine (awake9_c _).mono ?_); rintro _ y7 ⟨rfl, hb⟩)
        have hz := hb.size
        (try simp only [World.size_alloc, World.size_setCell, World.size_drew] at hz)
        have hB' : Below W.heap.size W y7 := by
            refine kb ?_ hb
            go_grown
        clear hB hsz
        clear hb hz
        have hB := hB'; clear hB'
        have hsz := hB.size
        have HFn := Lib.hid (HF.out.below hB)
        have hc9 := HFn.out.c
        have hf9 := HFn.out.f
        clear HF hB
        go_wp2
        have HF3 := HFn.out.set (by omega) (.bool true)
        obtain ⟨d3, hB3⟩ := HF3.over hDw
        exact ⟨by simp, .inl ⟨_, _, rfl, run_takeDeferred HF3.d, .bool true, by simp [results, Tryd.results5, go_sem, d3], rfl, hB3⟩⟩
theorem nil_walk9 (P : Pol) (hb8 : Bits P) (v : Value) (a : Int) (hi : -9223372036854775808 ≤ a ∧ a ≤ 9223372036854775807) (bv bt : Int) (hbt : 0 ≤ bt ∧ bt ≤ 255) (w : World) (hv : HoldsP w v P) (hL : Laid w) :
    Calls Tryd.prog 5 #[v, .int .i64 a, .agg #[.int .u8 bv, .int .u8 bt]] w fun e w' => e = .returned (.bool true) ∧ Below w.heap.size w w' := callsIn_wide.1 (nil_in9 P hb8 v a bv bt hbt w hv hL)
end Go.Proofs.YtcilnbkmaoneaaaDoor
