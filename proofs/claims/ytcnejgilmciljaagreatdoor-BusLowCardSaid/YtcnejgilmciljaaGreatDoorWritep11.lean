/-
  The program's Write.
-/
import Derived.Test.YtcnejgilmciljaaGreatDoorPut11
set_option linter.unusedSimpArgs false
set_option linter.unusedVariables false
namespace Go.Proofs.YtcnejgilmciljaaGreatDoor
open Go.RowKit Go.PlainAid

def writeV (S : Po) (reg t : Int) : Value := .tuple #[.int .i64 (writeE S reg t).1, .int .i64 (writeE S reg t).2]
set_option maxRecDepth 100000 in
theorem issec_c (v t : Int) (w : World) : Calls Tryz.prog 114 #[.agg #[.int .u8 v, .int .u8 t]] w fun e w' => e = .returned (.bool (decide (t ≠ 0))) ∧ Below w.heap.size w w' := by
  by_cases h : t = 0
  · subst h
    go_enter Tryz.func114, Tryz.ntmps114
    go_wp2
    go_ret
    exact ⟨rfl, by go_grown⟩
  · have h1 : (t != 0) = true := by simpa using h
    rw [decide_eq_true h]
    go_enter Tryz.func114, Tryz.ntmps114
    go_wp2
    go_ret
    exact ⟨rfl, by go_grown⟩
/-- A byte in a block. -/
def BxC (n : Nat) (v t : Int) (W : World) : Prop := W.cell? ⟨n, 0, none⟩ = some (.int .u8 v) ∧ W.cell? ⟨n, 1, none⟩ = some (.int .u8 t)
theorem po_put {pb : Nat} {S S' : Po} {x y a b c a' b' c' : Value} {w W u : World} (h : Pp pb S x y a b c w) (hW : Below w.heap.size w W) (hq : Hq pb (rP S a b c) (rP S' a' b' c') W u) (hp : S'.pub = S.pub) (hs : S'.sec = S.sec) :
    ∃ F' G', PO pb S' F' G' u ∧ Mv (foot pb (rP S a b c)) (hang (foot pb (rP S a b c)) (some_ S.pub) (some_ S.sec) x y) F' G' w u := by
  have hz := hW.size
  refine ⟨_, _, ⟨x, y, a', b', c', (h.below hW).hq hq hp hs, rfl, rfl⟩, (Fr.ofBelow hW).trans hq.fr (fun _ _ e => e), fun k hk => ?_, fun k hk => ?_⟩
  · exact (hq.ft k hk).imp id (fun h1 => by omega)
  · rcases hk with hk | ⟨h1, h2⟩ | ⟨h1, h2⟩
    · exact (hq.ft k hk).imp .inl (fun h1 => by omega)
    · exact .inl (.inr (.inl ⟨by rw [← hp]; exact h1, h2⟩))
    · exact .inl (.inr (.inr ⟨by rw [← hs]; exact h1, h2⟩))
theorem bx_put {pb n : Nat} {S : Po} {x y a b c : Value} {R' : List Rw} {w W u : World} {v t : Int} (h : Pp pb S x y a b c w) (hn : w.heap.size ≤ n) (hx : BxC n v t W) (hq : Hq pb (rP S a b c) R' W u) : BxC n v t u := by
  have hnf : ¬ foot pb (rP S a b c) n := fun hf => by have := h.hold.foot_lt hf; omega
  exact ⟨hq.fr.cell hx.1 hnf, hq.fr.cell hx.2 hnf⟩
set_option maxRecDepth 100000 in
theorem writep_nil (reg v t cy : Int) (w : World) : Calls Tryz.prog 105 #[.pointer none, .int .i64 reg, .agg #[.int .u8 v, .int .u8 t], .int .i64 cy] w fun e w' => e = .returned (.tuple #[.int .i64 0, .int .i64 2]) ∧ Below w.heap.size w w' := by
  go_enter Tryz.func105, Tryz.ntmps105
  go_wp2
  go_ret2
  exact ⟨rfl, by go_grown⟩
set_option maxRecDepth 100000 in
set_option maxHeartbeats 4000000 in
theorem writep_bad (pb : Nat) (S : Po) (F G : Nat → Prop) (reg v t cy : Int) (hr : ¬ (0 ≤ reg ∧ reg ≤ 4)) (w : World) (h : PO pb S F G w) :
    Calls Tryz.prog 105 #[.pointer (some ⟨pb, 0, none⟩), .int .i64 reg, .agg #[.int .u8 v, .int .u8 t], .int .i64 cy] w (PEnd pb (wrPo S reg v t cy) F G (writeV S reg t) w) := by
  have HO := Lib.hid h
  have HE := Lib.hid (show writeE S reg t = (0, 10) from by unfold writeE; rw [if_pos hr])
  have HP := Lib.hid (show wrPo S reg v t cy = S from by unfold wrPo; rw [HE.out, if_pos (by decide)])
  have d0 : (reg == 0) = false := by simp; omega
  have d1 : (reg == 1) = false := by simp; omega
  have d2 : (reg == 2) = false := by simp; omega
  have d3 : (reg == 3) = false := by simp; omega
  have d4 : (reg == 4) = false := by simp; omega
  clear h hr
  go_enter Tryz.func105, Tryz.ntmps105
  go_wp2
  go_ret2
  exact ⟨by unfold writeV; rw [HE.out]; first | done | rfl, pend_same HO.out (by go_grown) HP.out⟩
set_option maxRecDepth 100000 in
set_option maxHeartbeats 4000000 in
theorem writep_in (pb : Nat) (S : Po) (F G : Nat → Prop) (reg v cy : Int) (hr : reg = 0 ∨ reg = 1) (w : World) (h : PO pb S F G w) :
    Calls Tryz.prog 105 #[.pointer (some ⟨pb, 0, none⟩), .int .i64 reg, .agg #[.int .u8 v, .int .u8 0], .int .i64 cy] w (PEnd pb (wrPo S reg v 0 cy) F G (writeV S reg 0) w) := by
  have HO := Lib.hid h
  have HE := Lib.hid (show writeE S reg 0 = (0, 0) from by unfold writeE; rw [if_neg (by omega), if_neg (by omega), if_neg (by omega)])
  have HP := Lib.hid (show wrPo S reg v 0 cy = S from by unfold wrPo; rw [HE.out, if_neg (by decide), if_neg (by omega), if_neg (by omega), if_neg (by omega)])
  have hdt : decide ((0 : Int) ≠ 0) = false := by decide
  clear h
  rcases hr with rfl | rfl
  · go_enter Tryz.func105, Tryz.ntmps105
    go_wp2_with fail
    refine (issec_c _ _ _).mono ?_
    rintro _ u ⟨rfl, hb⟩
    rw [hdt]
    have HBu : Below w.heap.size w u := kb ((Below.refl _ _).alloc (Nat.le_refl _) _) hb
    have hsu : w.heap.size < u.heap.size := by have := hb.size; (try simp only [World.size_alloc] at this); omega
    have b0u : u.cell? ⟨w.heap.size, 0, none⟩ = some (.int .u8 v) := kc hb (by go_simp; first | done | rfl)
    have b1u : u.cell? ⟨w.heap.size, 1, none⟩ = some (.int .u8 0) := kc hb (by go_simp; first | done | rfl)
    clear hb
    go_wp2
    go_ret2
    exact ⟨by unfold writeV; rw [HE.out]; first | done | rfl, pend_same HO.out (by go_grown) HP.out⟩
  · go_enter Tryz.func105, Tryz.ntmps105
    go_wp2_with fail
    refine (issec_c _ _ _).mono ?_
    rintro _ u ⟨rfl, hb⟩
    rw [hdt]
    have HBu : Below w.heap.size w u := kb ((Below.refl _ _).alloc (Nat.le_refl _) _) hb
    have hsu : w.heap.size < u.heap.size := by have := hb.size; (try simp only [World.size_alloc] at this); omega
    have b0u : u.cell? ⟨w.heap.size, 0, none⟩ = some (.int .u8 v) := kc hb (by go_simp; first | done | rfl)
    have b1u : u.cell? ⟨w.heap.size, 1, none⟩ = some (.int .u8 0) := kc hb (by go_simp; first | done | rfl)
    clear hb
    go_wp2
    go_ret2
    exact ⟨by unfold writeV; rw [HE.out]; first | done | rfl, pend_same HO.out (by go_grown) HP.out⟩
set_option maxRecDepth 100000 in
set_option maxHeartbeats 4000000 in
theorem writep_alarm (pb : Nat) (S : Po) (F G : Nat → Prop) (reg v t cy : Int) (hr : reg = 0 ∨ reg = 1 ∨ reg = 2) (ht : 0 < t) (w : World) (h : PO pb S F G w) :
    Calls Tryz.prog 105 #[.pointer (some ⟨pb, 0, none⟩), .int .i64 reg, .agg #[.int .u8 v, .int .u8 t], .int .i64 cy] w (PEnd pb (wrPo S reg v t cy) F G (writeV S reg t) w) := by
  have HO := Lib.hid h
  have HE := Lib.hid (show writeE S reg t = (4, 20) from by unfold writeE; rw [if_neg (by omega), if_pos ⟨by omega, ht⟩])
  have HP := Lib.hid (show wrPo S reg v t cy = S from by unfold wrPo; rw [HE.out, if_pos (by decide)])
  have hdt : decide (t ≠ 0) = true := by simp; omega
  clear h
  rcases hr with rfl | rfl | rfl
  · go_enter Tryz.func105, Tryz.ntmps105
    go_wp2_with fail
    refine (issec_c _ _ _).mono ?_
    rintro _ u ⟨rfl, hb⟩
    rw [hdt]
    have HBu : Below w.heap.size w u := kb ((Below.refl _ _).alloc (Nat.le_refl _) _) hb
    have hsu : w.heap.size < u.heap.size := by have := hb.size; (try simp only [World.size_alloc] at this); omega
    have b0u : u.cell? ⟨w.heap.size, 0, none⟩ = some (.int .u8 v) := kc hb (by go_simp; first | done | rfl)
    have b1u : u.cell? ⟨w.heap.size, 1, none⟩ = some (.int .u8 t) := kc hb (by go_simp; first | done | rfl)
    clear hb
    go_wp2
    go_ret2
    exact ⟨by unfold writeV; rw [HE.out]; first | done | rfl, pend_same HO.out (by go_grown) HP.out⟩
  · go_enter Tryz.func105, Tryz.ntmps105
    go_wp2_with fail
    refine (issec_c _ _ _).mono ?_
    rintro _ u ⟨rfl, hb⟩
    rw [hdt]
    have HBu : Below w.heap.size w u := kb ((Below.refl _ _).alloc (Nat.le_refl _) _) hb
    have hsu : w.heap.size < u.heap.size := by have := hb.size; (try simp only [World.size_alloc] at this); omega
    have b0u : u.cell? ⟨w.heap.size, 0, none⟩ = some (.int .u8 v) := kc hb (by go_simp; first | done | rfl)
    have b1u : u.cell? ⟨w.heap.size, 1, none⟩ = some (.int .u8 t) := kc hb (by go_simp; first | done | rfl)
    clear hb
    go_wp2
    go_ret2
    exact ⟨by unfold writeV; rw [HE.out]; first | done | rfl, pend_same HO.out (by go_grown) HP.out⟩
  · go_enter Tryz.func105, Tryz.ntmps105
    go_wp2_with fail
    refine (issec_c _ _ _).mono ?_
    rintro _ u ⟨rfl, hb⟩
    rw [hdt]
    have HBu : Below w.heap.size w u := kb ((Below.refl _ _).alloc (Nat.le_refl _) _) hb
    have hsu : w.heap.size < u.heap.size := by have := hb.size; (try simp only [World.size_alloc] at this); omega
    have b0u : u.cell? ⟨w.heap.size, 0, none⟩ = some (.int .u8 v) := kc hb (by go_simp; first | done | rfl)
    have b1u : u.cell? ⟨w.heap.size, 1, none⟩ = some (.int .u8 t) := kc hb (by go_simp; first | done | rfl)
    clear hb
    go_wp2_with fail
    refine (issec_c _ _ _).mono ?_
    rintro _ u2 ⟨rfl, hb⟩
    rw [hdt]
    have HBu2 : Below w.heap.size w u2 := kb HBu hb
    have hsu2 : w.heap.size < u2.heap.size := by have := hb.size; (try simp only [World.size_alloc] at this); omega
    have b0u2 : u2.cell? ⟨w.heap.size, 0, none⟩ = some (.int .u8 v) := kc hb (by go_simp; first | done | rfl)
    have b1u2 : u2.cell? ⟨w.heap.size, 1, none⟩ = some (.int .u8 t) := kc hb (by go_simp; first | done | rfl)
    clear hb
    go_wp2
    go_ret2
    exact ⟨by unfold writeV; rw [HE.out]; first | done | rfl, pend_same HO.out (by go_grown) HP.out⟩
set_option maxRecDepth 100000 in
set_option maxHeartbeats 4000000 in
theorem writep_out (pb : Nat) (S : Po) (F G : Nat → Prop) (v cy : Int) (hl : S.out.length < 4096) (w : World) (h : PO pb S F G w) :
    Calls Tryz.prog 105 #[.pointer (some ⟨pb, 0, none⟩), .int .i64 2, .agg #[.int .u8 v, .int .u8 0], .int .i64 cy] w (PEnd pb (wrPo S 2 v 0 cy) F G (writeV S 2 0) w) := by
  have HE := Lib.hid (show writeE S 2 0 = (0, 0) from by unfold writeE; rw [if_neg (by omega), if_neg (by omega), if_neg (by omega)])
  have HP := Lib.hid (show wrPo S 2 v 0 cy = ⟨S.pub, S.sec, S.out ++ [v], S.kept, S.cyc, S.told⟩ from by unfold wrPo; rw [HE.out, if_neg (by decide), if_pos rfl])
  have HO := Lib.hid h
  obtain ⟨x, y, a, b, c, h, rfl, rfl⟩ := h
  have hlt := h.hold.lt
  have HQ := Lib.hid (fun W (hW : Below w.heap.size w W) => put_b_ok pb 2 0 _ S.out _ rfl (by omega) W (h.hold.below hW) v)
  have HH := Lib.hid h
  clear h hl
  go_enter Tryz.func105, Tryz.ntmps105
  have hdt : decide ((0 : Int) ≠ 0) = false := by decide
  go_wp2_with fail
  refine (issec_c _ _ _).mono ?_
  rintro _ u ⟨rfl, hb⟩
  rw [hdt]
  have HBu : Below w.heap.size w u := kb ((Below.refl _ _).alloc (Nat.le_refl _) _) hb
  have hsu : w.heap.size < u.heap.size := by have := hb.size; (try simp only [World.size_alloc] at this); omega
  have b0u : u.cell? ⟨w.heap.size, 0, none⟩ = some (.int .u8 v) := kc hb (by go_simp; first | done | rfl)
  have b1u : u.cell? ⟨w.heap.size, 1, none⟩ = some (.int .u8 0) := kc hb (by go_simp; first | done | rfl)
  clear hb
  go_wp2_with fail
  refine wp_region_planX 6 5 (fun bo W => BxC w.heap.size v 0 W ∧ bif bo then (∃ F' G', PO pb ⟨S.pub, S.sec, S.out ++ [v], S.kept, S.cyc, S.told⟩ F' G' W ∧ Mv (foot pb (rP S a b c)) (hang (foot pb (rP S a b c)) (some_ S.pub) (some_ S.sec) x y) F' G' w W) else Below w.heap.size w W) (by decide) (by kernel_rfl) (by kernel_rfl) (by kernel_rfl) (by kernel_rfl) ?_ ?_
  · (try dsimp only)
    refine ⟨⟨?_, ?_⟩, ?_⟩
    · exact b0u
    · exact b1u
    · (try simp only [cond_false]); exact Below.drew HBu
  (try simp only [List.append_eq, List.cons_append, List.nil_append, List.toList_toArray, List.take_succ_cons, List.take_zero, List.drop_succ_cons, List.drop_zero])
  repeat (first
    | (refine PlanX.val (v := ?_) (by decide) ?_ ?_ ?_; rotate_left; (· rfl); (· (intro bo W hSw; obtain ⟨⟨bx0, bx1⟩, -⟩ := hSw; go_simp; all_goals (first | (with_reducible rfl) | (constructor <;> (with_reducible rfl))))); (try simp only [Act.put, List.setIfInBounds_toArray, List.set_cons_zero, List.set_cons_succ]))
    | (refine PlanX.turn (v := .int .i64 0) (f := ?_) (args := ?_) (by decide) ?_ ?_ ?_ ?_; rotate_left 2; (· rfl); (· (intro W hSw; obtain ⟨⟨bx0, bx1⟩, -⟩ := hSw; go_simp; all_goals (first | (with_reducible rfl) | (constructor <;> (with_reducible rfl))))); (· (intro W hSw; exact (HQ.out W hSw.2).mono fun e w' ⟨h1, v', h2⟩ => ⟨h1, bx_put HH.out (Nat.le_refl _) hSw.1 h2, po_put (S' := ⟨S.pub, S.sec, S.out ++ [v], S.kept, S.cyc, S.told⟩) (a' := v') (b' := b) (c' := c) HH.out hSw.2 (by exact h2) rfl rfl⟩)); (try simp only [Act.put, List.setIfInBounds_toArray, List.set_cons_zero, List.set_cons_succ])))
  refine PlanX.done ?_
  intro U T
  have HU := Lib.hid T.2
  clear T
  go_wp2
  go_ret2
  exact ⟨by unfold writeV; rw [HE.out]; first | done | rfl, by rw [HP.out]; exact HU.out⟩
set_option maxRecDepth 100000 in
set_option maxHeartbeats 4000000 in
theorem writep_outf (pb : Nat) (S : Po) (F G : Nat → Prop) (v cy : Int) (hl : 4096 ≤ S.out.length) (w : World) (h : PO pb S F G w) :
    Calls Tryz.prog 105 #[.pointer (some ⟨pb, 0, none⟩), .int .i64 2, .agg #[.int .u8 v, .int .u8 0], .int .i64 cy] w (PEnd pb (wrPo S 2 v 0 cy) F G (writeV S 2 0) w) := by
  have HE := Lib.hid (show writeE S 2 0 = (0, 18) from by unfold writeE; rw [if_neg (by omega), if_neg (by omega), if_pos (by omega)])
  have HP := Lib.hid (show wrPo S 2 v 0 cy = S from by unfold wrPo; rw [HE.out, if_pos (by decide)])
  have HO := Lib.hid h
  obtain ⟨x, y, a, b, c, h, rfl, rfl⟩ := h
  have hlt := h.hold.lt
  obtain ⟨hc, ho⟩ := h.at0.1
  obtain ⟨p, ca, rfl⟩ := own_form ho
  have HQ := Lib.hid (fun W (hW : Below w.heap.size w W) => put_b_no pb 2 S.out.length ca p (by omega) W (kc hW hc) v)
  clear h hl ho
  go_enter Tryz.func105, Tryz.ntmps105
  have hdt : decide ((0 : Int) ≠ 0) = false := by decide
  go_wp2_with fail
  refine (issec_c _ _ _).mono ?_
  rintro _ u ⟨rfl, hb⟩
  rw [hdt]
  have HBu : Below w.heap.size w u := kb ((Below.refl _ _).alloc (Nat.le_refl _) _) hb
  have hsu : w.heap.size < u.heap.size := by have := hb.size; (try simp only [World.size_alloc] at this); omega
  have b0u : u.cell? ⟨w.heap.size, 0, none⟩ = some (.int .u8 v) := kc hb (by go_simp; first | done | rfl)
  have b1u : u.cell? ⟨w.heap.size, 1, none⟩ = some (.int .u8 0) := kc hb (by go_simp; first | done | rfl)
  clear hb
  go_wp2_with fail
  refine wp_region_planX 6 5 (fun bo W => BxC w.heap.size v 0 W ∧ Below w.heap.size w W) (by decide) (by kernel_rfl) (by kernel_rfl) (by kernel_rfl) (by kernel_rfl) ?_ ?_
  · (try dsimp only)
    refine ⟨⟨?_, ?_⟩, ?_⟩
    · exact b0u
    · exact b1u
    · (try simp only [cond_false]); exact Below.drew HBu
  (try simp only [List.append_eq, List.cons_append, List.nil_append, List.toList_toArray, List.take_succ_cons, List.take_zero, List.drop_succ_cons, List.drop_zero])
  repeat (first
    | (refine PlanX.val (v := ?_) (by decide) ?_ ?_ ?_; rotate_left; (· rfl); (· (intro bo W hSw; obtain ⟨⟨bx0, bx1⟩, -⟩ := hSw; go_simp; all_goals (first | (with_reducible rfl) | (constructor <;> (with_reducible rfl))))); (try simp only [Act.put, List.setIfInBounds_toArray, List.set_cons_zero, List.set_cons_succ]))
    | (refine PlanX.turn (v := .int .i64 18) (f := ?_) (args := ?_) (by decide) ?_ ?_ ?_ ?_; rotate_left 2; (· rfl); (· (intro W hSw; obtain ⟨⟨bx0, bx1⟩, -⟩ := hSw; go_simp; all_goals (first | (with_reducible rfl) | (constructor <;> (with_reducible rfl))))); (· (intro W hSw; exact (HQ.out W hSw.2).mono fun e w' ⟨h1, h2⟩ => ⟨h1, ⟨kc h2 hSw.1.1, kc h2 hSw.1.2⟩, kb hSw.2 h2⟩)); (try simp only [Act.put, List.setIfInBounds_toArray, List.set_cons_zero, List.set_cons_succ])))
  refine PlanX.done ?_
  intro U T
  have HUB : Below w.heap.size w U := T.2
  clear T
  go_wp2
  go_ret2
  exact ⟨by unfold writeV; rw [HE.out]; first | done | rfl, pend_same HO.out HUB HP.out⟩
set_option maxRecDepth 100000 in
set_option maxHeartbeats 4000000 in
theorem writep_kept (pb : Nat) (S : Po) (F G : Nat → Prop) (v t cy : Int) (hl : S.kept.length < 4096) (w : World) (h : PO pb S F G w) :
    Calls Tryz.prog 105 #[.pointer (some ⟨pb, 0, none⟩), .int .i64 3, .agg #[.int .u8 v, .int .u8 t], .int .i64 cy] w (PEnd pb (wrPo S 3 v t cy) F G (writeV S 3 t) w) := by
  have HE := Lib.hid (show writeE S 3 t = (0, 0) from by unfold writeE; rw [if_neg (by omega), if_neg (by omega), if_neg (by omega)])
  have HP := Lib.hid (show wrPo S 3 v t cy = ⟨S.pub, S.sec, S.out, S.kept ++ [(v, t)], S.cyc, S.told⟩ from by unfold wrPo; rw [HE.out, if_neg (by decide), if_neg (by decide), if_pos rfl])
  have HO := Lib.hid h
  obtain ⟨x, y, a, b, c, h, rfl, rfl⟩ := h
  have hlt := h.hold.lt
  have HQ := Lib.hid (fun W (hW : Below w.heap.size w W) => put_k_ok pb 3 1 _ S.kept _ rfl (by omega) W (h.hold.below hW) (v, t))
  have HH := Lib.hid h
  clear h hl
  go_enter Tryz.func105, Tryz.ntmps105
  go_wp2_with fail
  refine wp_region_planX 5 4 (fun bo W => BxC w.heap.size v t W ∧ bif bo then (∃ F' G', PO pb ⟨S.pub, S.sec, S.out, S.kept ++ [(v, t)], S.cyc, S.told⟩ F' G' W ∧ Mv (foot pb (rP S a b c)) (hang (foot pb (rP S a b c)) (some_ S.pub) (some_ S.sec) x y) F' G' w W) else Below w.heap.size w W) (by decide) (by kernel_rfl) (by kernel_rfl) (by kernel_rfl) (by kernel_rfl) ?_ ?_
  · (try dsimp only)
    refine ⟨⟨?_, ?_⟩, ?_⟩
    · go_simp; first | done | rfl
    · go_simp; first | done | rfl
    · (try simp only [cond_false]); exact Below.drew ((Below.refl _ _).alloc (Nat.le_refl _) _)
  (try simp only [List.append_eq, List.cons_append, List.nil_append, List.toList_toArray, List.take_succ_cons, List.take_zero, List.drop_succ_cons, List.drop_zero])
  repeat (first
    | (refine PlanX.val (v := ?_) (by decide) ?_ ?_ ?_; rotate_left; (· rfl); (· (intro bo W hSw; obtain ⟨⟨bx0, bx1⟩, -⟩ := hSw; go_simp; all_goals (first | (with_reducible rfl) | (constructor <;> (with_reducible rfl))))); (try simp only [Act.put, List.setIfInBounds_toArray, List.set_cons_zero, List.set_cons_succ]))
    | (refine PlanX.turn (v := .int .i64 0) (f := ?_) (args := ?_) (by decide) ?_ ?_ ?_ ?_; rotate_left 2; (· rfl); (· (intro W hSw; obtain ⟨⟨bx0, bx1⟩, -⟩ := hSw; go_simp; all_goals (first | (with_reducible rfl) | (constructor <;> (with_reducible rfl))))); (· (intro W hSw; exact (HQ.out W hSw.2).mono fun e w' ⟨h1, v', h2⟩ => ⟨h1, bx_put HH.out (Nat.le_refl _) hSw.1 h2, po_put (S' := ⟨S.pub, S.sec, S.out, S.kept ++ [(v, t)], S.cyc, S.told⟩) (a' := a) (b' := v') (c' := c) HH.out hSw.2 (by exact h2) rfl rfl⟩)); (try simp only [Act.put, List.setIfInBounds_toArray, List.set_cons_zero, List.set_cons_succ])))
  refine PlanX.done ?_
  intro U T
  have HU := Lib.hid T.2
  clear T
  go_wp2
  go_ret2
  exact ⟨by unfold writeV; rw [HE.out]; first | done | rfl, by rw [HP.out]; exact HU.out⟩
set_option maxRecDepth 100000 in
set_option maxHeartbeats 4000000 in
theorem writep_keptf (pb : Nat) (S : Po) (F G : Nat → Prop) (v t cy : Int) (hl : 4096 ≤ S.kept.length) (w : World) (h : PO pb S F G w) :
    Calls Tryz.prog 105 #[.pointer (some ⟨pb, 0, none⟩), .int .i64 3, .agg #[.int .u8 v, .int .u8 t], .int .i64 cy] w (PEnd pb (wrPo S 3 v t cy) F G (writeV S 3 t) w) := by
  have HE := Lib.hid (show writeE S 3 t = (0, 18) from by unfold writeE; rw [if_neg (by omega), if_neg (by omega), if_pos (by omega)])
  have HP := Lib.hid (show wrPo S 3 v t cy = S from by unfold wrPo; rw [HE.out, if_pos (by decide)])
  have HO := Lib.hid h
  obtain ⟨x, y, a, b, c, h, rfl, rfl⟩ := h
  have hlt := h.hold.lt
  obtain ⟨hc, ho⟩ := h.at0.2.1
  obtain ⟨p, ca, rfl⟩ := own_form ho
  have HQ := Lib.hid (fun W (hW : Below w.heap.size w W) => put_k_no pb 3 S.kept.length ca p (by omega) W (kc hW hc) (v, t))
  clear h hl ho
  go_enter Tryz.func105, Tryz.ntmps105
  go_wp2_with fail
  refine wp_region_planX 5 4 (fun bo W => BxC w.heap.size v t W ∧ Below w.heap.size w W) (by decide) (by kernel_rfl) (by kernel_rfl) (by kernel_rfl) (by kernel_rfl) ?_ ?_
  · (try dsimp only)
    refine ⟨⟨?_, ?_⟩, ?_⟩
    · go_simp; first | done | rfl
    · go_simp; first | done | rfl
    · (try simp only [cond_false]); exact Below.drew ((Below.refl _ _).alloc (Nat.le_refl _) _)
  (try simp only [List.append_eq, List.cons_append, List.nil_append, List.toList_toArray, List.take_succ_cons, List.take_zero, List.drop_succ_cons, List.drop_zero])
  repeat (first
    | (refine PlanX.val (v := ?_) (by decide) ?_ ?_ ?_; rotate_left; (· rfl); (· (intro bo W hSw; obtain ⟨⟨bx0, bx1⟩, -⟩ := hSw; go_simp; all_goals (first | (with_reducible rfl) | (constructor <;> (with_reducible rfl))))); (try simp only [Act.put, List.setIfInBounds_toArray, List.set_cons_zero, List.set_cons_succ]))
    | (refine PlanX.turn (v := .int .i64 18) (f := ?_) (args := ?_) (by decide) ?_ ?_ ?_ ?_; rotate_left 2; (· rfl); (· (intro W hSw; obtain ⟨⟨bx0, bx1⟩, -⟩ := hSw; go_simp; all_goals (first | (with_reducible rfl) | (constructor <;> (with_reducible rfl))))); (· (intro W hSw; exact (HQ.out W hSw.2).mono fun e w' ⟨h1, h2⟩ => ⟨h1, ⟨kc h2 hSw.1.1, kc h2 hSw.1.2⟩, kb hSw.2 h2⟩)); (try simp only [Act.put, List.setIfInBounds_toArray, List.set_cons_zero, List.set_cons_succ])))
  refine PlanX.done ?_
  intro U T
  have HUB : Below w.heap.size w U := T.2
  clear T
  go_wp2
  go_ret2
  exact ⟨by unfold writeV; rw [HE.out]; first | done | rfl, pend_same HO.out HUB HP.out⟩
set_option maxRecDepth 100000 in
set_option maxHeartbeats 4000000 in
theorem writep_log (pb : Nat) (S : Po) (F G : Nat → Prop) (v t cy : Int) (hl : S.told.length < 4096) (hcy : S.cyc.length = S.told.length) (w : World) (h : PO pb S F G w) :
    Calls Tryz.prog 105 #[.pointer (some ⟨pb, 0, none⟩), .int .i64 4, .agg #[.int .u8 v, .int .u8 t], .int .i64 cy] w (PEnd pb (wrPo S 4 v t cy) F G (writeV S 4 t) w) := by
  have HE := Lib.hid (show writeE S 4 t = (0, 0) from by unfold writeE; rw [if_neg (by omega), if_neg (by omega), if_neg (by omega)])
  have HP := Lib.hid (show wrPo S 4 v t cy = ⟨S.pub, S.sec, S.out, S.kept, S.cyc ++ [cy], S.told ++ [v]⟩ from by unfold wrPo; rw [HE.out, if_neg (by decide), if_neg (by decide), if_neg (by decide), if_pos rfl])
  have HO := Lib.hid h
  obtain ⟨x, y, a, b, c, h, rfl, rfl⟩ := h
  have hlt := h.hold.lt
  have hlg : S.log.length = S.told.length := by unfold Po.log; rw [List.length_zip, hcy, Nat.min_self]
  have HLG := Lib.hid (show (S.cyc ++ [cy]).zip (S.told ++ [v]) = S.log ++ [(cy, v)] from by unfold Po.log; rw [List.zip_append hcy]; rfl)
  have HQ := Lib.hid (fun W (hW : Below w.heap.size w W) => put_e_ok pb 4 2 _ S.log _ rfl (by omega) W (h.hold.below hW) (cy, v))
  have HH := Lib.hid h
  clear h hl
  go_enter Tryz.func105, Tryz.ntmps105
  go_wp2_with fail
  refine wp_region_planX 8 7 (fun bo W => BxC w.heap.size v t W ∧ bif bo then (∃ F' G', PO pb ⟨S.pub, S.sec, S.out, S.kept, S.cyc ++ [cy], S.told ++ [v]⟩ F' G' W ∧ Mv (foot pb (rP S a b c)) (hang (foot pb (rP S a b c)) (some_ S.pub) (some_ S.sec) x y) F' G' w W) else Below w.heap.size w W) (by decide) (by kernel_rfl) (by kernel_rfl) (by kernel_rfl) (by kernel_rfl) ?_ ?_
  · (try dsimp only)
    refine ⟨⟨?_, ?_⟩, ?_⟩
    · go_simp; first | done | rfl
    · go_simp; first | done | rfl
    · (try simp only [cond_false]); exact Below.drew ((Below.refl _ _).alloc (Nat.le_refl _) _)
  (try simp only [List.append_eq, List.cons_append, List.nil_append, List.toList_toArray, List.take_succ_cons, List.take_zero, List.drop_succ_cons, List.drop_zero])
  repeat (first
    | (refine PlanX.val (v := ?_) (by decide) ?_ ?_ ?_; rotate_left; (· rfl); (· (intro bo W hSw; obtain ⟨⟨bx0, bx1⟩, -⟩ := hSw; go_simp; all_goals (first | (with_reducible rfl) | (constructor <;> (with_reducible rfl))))); (try simp only [Act.put, List.setIfInBounds_toArray, List.set_cons_zero, List.set_cons_succ]))
    | (refine PlanX.turn (v := .int .i64 0) (f := ?_) (args := ?_) (by decide) ?_ ?_ ?_ ?_; rotate_left 2; (· rfl); (· (intro W hSw; obtain ⟨⟨bx0, bx1⟩, -⟩ := hSw; go_simp; all_goals (first | (with_reducible rfl) | (constructor <;> (with_reducible rfl))))); (· (intro W hSw; exact (HQ.out W hSw.2).mono fun e w' ⟨h1, v', h2⟩ => ⟨h1, bx_put HH.out (Nat.le_refl _) hSw.1 h2, po_put (S' := ⟨S.pub, S.sec, S.out, S.kept, S.cyc ++ [cy], S.told ++ [v]⟩) (a' := a) (b' := b) (c' := v') HH.out hSw.2 (by rw [show (S.log ++ [(cy, v)]) = (Po.log ⟨S.pub, S.sec, S.out, S.kept, S.cyc ++ [cy], S.told ++ [v]⟩) from HLG.out.symm] at h2; exact h2) rfl rfl⟩)); (try simp only [Act.put, List.setIfInBounds_toArray, List.set_cons_zero, List.set_cons_succ])))
  refine PlanX.done ?_
  intro U T
  have HU := Lib.hid T.2
  clear T
  go_wp2
  go_ret2
  exact ⟨by unfold writeV; rw [HE.out]; first | done | rfl, by rw [HP.out]; exact HU.out⟩
set_option maxRecDepth 100000 in
set_option maxHeartbeats 4000000 in
theorem writep_logf (pb : Nat) (S : Po) (F G : Nat → Prop) (v t cy : Int) (hl : 4096 ≤ S.told.length) (hcy : S.cyc.length = S.told.length) (w : World) (h : PO pb S F G w) :
    Calls Tryz.prog 105 #[.pointer (some ⟨pb, 0, none⟩), .int .i64 4, .agg #[.int .u8 v, .int .u8 t], .int .i64 cy] w (PEnd pb (wrPo S 4 v t cy) F G (writeV S 4 t) w) := by
  have HE := Lib.hid (show writeE S 4 t = (0, 18) from by unfold writeE; rw [if_neg (by omega), if_neg (by omega), if_pos (by omega)])
  have HP := Lib.hid (show wrPo S 4 v t cy = S from by unfold wrPo; rw [HE.out, if_pos (by decide)])
  have HO := Lib.hid h
  obtain ⟨x, y, a, b, c, h, rfl, rfl⟩ := h
  have hlt := h.hold.lt
  have hlg : S.log.length = S.told.length := by unfold Po.log; rw [List.length_zip, hcy, Nat.min_self]
  have HLG := Lib.hid (show (S.cyc ++ [cy]).zip (S.told ++ [v]) = S.log ++ [(cy, v)] from by unfold Po.log; rw [List.zip_append hcy]; rfl)
  obtain ⟨hc, ho⟩ := h.at0.2.2
  obtain ⟨p, ca, rfl⟩ := own_form ho
  have HQ := Lib.hid (fun W (hW : Below w.heap.size w W) => put_e_no pb 4 S.log.length ca p (by omega) W (kc hW hc) (cy, v))
  clear h hl ho
  go_enter Tryz.func105, Tryz.ntmps105
  go_wp2_with fail
  refine wp_region_planX 8 7 (fun bo W => BxC w.heap.size v t W ∧ Below w.heap.size w W) (by decide) (by kernel_rfl) (by kernel_rfl) (by kernel_rfl) (by kernel_rfl) ?_ ?_
  · (try dsimp only)
    refine ⟨⟨?_, ?_⟩, ?_⟩
    · go_simp; first | done | rfl
    · go_simp; first | done | rfl
    · (try simp only [cond_false]); exact Below.drew ((Below.refl _ _).alloc (Nat.le_refl _) _)
  (try simp only [List.append_eq, List.cons_append, List.nil_append, List.toList_toArray, List.take_succ_cons, List.take_zero, List.drop_succ_cons, List.drop_zero])
  repeat (first
    | (refine PlanX.val (v := ?_) (by decide) ?_ ?_ ?_; rotate_left; (· rfl); (· (intro bo W hSw; obtain ⟨⟨bx0, bx1⟩, -⟩ := hSw; go_simp; all_goals (first | (with_reducible rfl) | (constructor <;> (with_reducible rfl))))); (try simp only [Act.put, List.setIfInBounds_toArray, List.set_cons_zero, List.set_cons_succ]))
    | (refine PlanX.turn (v := .int .i64 18) (f := ?_) (args := ?_) (by decide) ?_ ?_ ?_ ?_; rotate_left 2; (· rfl); (· (intro W hSw; obtain ⟨⟨bx0, bx1⟩, -⟩ := hSw; go_simp; all_goals (first | (with_reducible rfl) | (constructor <;> (with_reducible rfl))))); (· (intro W hSw; exact (HQ.out W hSw.2).mono fun e w' ⟨h1, h2⟩ => ⟨h1, ⟨kc h2 hSw.1.1, kc h2 hSw.1.2⟩, kb hSw.2 h2⟩)); (try simp only [Act.put, List.setIfInBounds_toArray, List.set_cons_zero, List.set_cons_succ])))
  refine PlanX.done ?_
  intro U T
  have HUB : Below w.heap.size w U := T.2
  clear T
  go_wp2
  go_ret2
  exact ⟨by unfold writeV; rw [HE.out]; first | done | rfl, pend_same HO.out HUB HP.out⟩
theorem pwrite_c (pb : Nat) (S : Po) (F G : Nat → Prop) (reg v t cy : Int) (ht : 0 ≤ t ∧ t ≤ 255) (hcy : S.cyc.length = S.told.length) (w : World) (h : PO pb S F G w) :
    Calls Tryz.prog 105 #[.pointer (some ⟨pb, 0, none⟩), .int .i64 reg, .agg #[.int .u8 v, .int .u8 t], .int .i64 cy] w (PEnd pb (wrPo S reg v t cy) F G (writeV S reg t) w) := by
  by_cases hr : 0 ≤ reg ∧ reg ≤ 4
  · by_cases ha : reg ≤ 2 ∧ 0 < t
    · exact writep_alarm pb S F G reg v t cy (by omega) ha.2 w h
    · rcases (show reg = 0 ∨ reg = 1 ∨ reg = 2 ∨ reg = 3 ∨ reg = 4 by omega) with e | e | e | e | e
      · obtain rfl : t = 0 := by omega
        exact writep_in pb S F G reg v cy (.inl e) w h
      · obtain rfl : t = 0 := by omega
        exact writep_in pb S F G reg v cy (.inr e) w h
      · obtain rfl : t = 0 := by omega
        subst e
        by_cases hf : 4096 ≤ S.out.length
        · exact writep_outf pb S F G v cy hf w h
        · exact writep_out pb S F G v cy (by omega) w h
      · subst e
        by_cases hf : 4096 ≤ S.kept.length
        · exact writep_keptf pb S F G v t cy hf w h
        · exact writep_kept pb S F G v t cy (by omega) w h
      · subst e
        by_cases hf : 4096 ≤ S.told.length
        · exact writep_logf pb S F G v t cy hf hcy w h
        · exact writep_log pb S F G v t cy (by omega) hcy w h
  · exact writep_bad pb S F G reg v t cy hr w h
end Go.Proofs.YtcnejgilmciljaaGreatDoor
