/-
  MemoryNil: its walk.
-/
import Derived.Test.YtoakgchfdihjbaaDoorSecret8
set_option linter.unusedSimpArgs false
set_option linter.unusedVariables false
namespace Go.Proofs.YtoakgchfdihjbaaDoor
open Go.RowKit Go.PlainAid Go.Shelf
attribute [local go_sem] Oper.semAt_some

theorem sec_not_nil (B : Nat) (w : World) : (binOp .eql 43 (secF B) .nilFunc).run Tryd.prog w = .ok (.bool false) w := by
  unfold secF
  kernel_rfl
/-- The result's cell, and the loop's record, behind a call. -/
structure NilMid (w : World) (D : Nat) (W : World) : Prop where
  c : W.cell? ⟨w.heap.size, 0, none⟩ = some (.bool false)
  f : W.frozen? ⟨w.heap.size, 0, none⟩ = false
  d : W.heap[D]? = some (.deferred (some []))
  b : Below w.heap.size w W
theorem NilMid.below {w W U : World} {D : Nat} (h : NilMid w D W) (hb : Below W.heap.size W U) : NilMid w D U :=
  ⟨kc hb h.c, kfz hb (klt h.c) h.f, (hb.block D (Array.getElem?_eq_some_iff.1 h.d).1).trans h.d, h.b.trans (hb.mono h.b.size)⟩
set_option maxRecDepth 100000 in
set_option maxHeartbeats 4000000 in
theorem nil_in (a : Int) (p : Option Addr) (m c : Nat) (w : World) (hL : Laid w) : CallsIn Fence.wide 4 Tryd.prog 6 #[.int .i64 a, .slice p m c] w (LawEnd w) := by
  have HA := Lib.hid (fun W (h : Below w.heap.size w W) => awake_c W (hL.below h))
  have hlt := hL.lt
  clear hL
  refine callsIn_of_wp_marks Tryd.func6 rfl trivial ?_ rfl
  simp only [Tryd.ntmps6, List.size_toArray, List.length_cons, List.length_nil, Nat.reduceAdd, Nat.reduceSub, Array.replicate_succ, Array.replicate_zero, List.push_toArray, List.append_toArray, List.nil_append, List.cons_append]
  by_cases hm : 100 < m
  · have h1 : (100 : Int) < (m : Int) := by omega
    gi_wp2_with fail
    refine ⟨trivial, ?_⟩
    gi_at_call 10
    refine (callsIn_wide.2 (HA.out _ (by go_grown))).mono ?_
    rintro _ u ⟨rfl, hb⟩
    have hc0 : u.cell? ⟨w.heap.size, 0, none⟩ = some (.bool false) := kc hb (by go_simp)
    have hf0 : u.frozen? ⟨w.heap.size, 0, none⟩ = false := kfz hb (by simp) (by go_simp)
    have hB : Below w.heap.size w u := kb (by go_grown) hb
    clear hb
    gi_wp2
    refine ⟨.bool true, ?_, rfl, hB.setCell (p := ⟨w.heap.size, 0, none⟩) (Nat.le_refl _) _⟩
    have d3 : (u.setCell ⟨w.heap.size, 0, none⟩ (.bool true)).cell? ⟨w.heap.size, 0, none⟩ = some (.bool true) := by go_simp
    simp [results, Tryd.results6, go_sem, d3]
  · have h1 : ¬ (100 : Int) < (m : Int) := by omega
    gi_wp2_with fail
    refine ⟨trivial, ?_⟩
    gi_at_call 12
    refine (callsIn_wide.2 (readn_c a _)).mono ?_
    rintro _ u1 ⟨rfl, hb⟩
    have hc1 : u1.cell? ⟨w.heap.size, 0, none⟩ = some (.bool false) := kc hb (by go_simp)
    have hf1 : u1.frozen? ⟨w.heap.size, 0, none⟩ = false := kfz hb (by simp) (by go_simp)
    have hB1 : Below w.heap.size w u1 := kb (by go_grown) hb
    have hz1 := hb.size
    rw [World.size_alloc] at hz1
    clear hb
    gi_wp2_with fail
    refine ⟨trivial, ?_⟩
    gi_at_call 14
    refine (callsIn_wide.2 (secretn_c _)).mono ?_
    rintro _ u2 ⟨B, rfl, hb, hB2, hB3, hB4⟩
    have hz1' : w.heap.size < u1.heap.size := by omega
    have hz1n : ¬ w.heap.size = u1.heap.size := by omega
    have hc2 : u2.cell? ⟨w.heap.size, 0, none⟩ = some (.bool false) := kc hb (by go_simp)
    have hf2 : u2.frozen? ⟨w.heap.size, 0, none⟩ = false := kfz hb (by simp; omega) (by go_simp)
    have hx0 : u2.cell? ⟨u1.heap.size, 0, none⟩ = some (.int .u8 0) := kc hb (by go_simp)
    have hx1 : u2.cell? ⟨u1.heap.size, 1, none⟩ = some (.int .u8 0) := kc hb (by go_simp)
    have hBB2 : Below w.heap.size w u2 := kb (by go_grown) hb
    have hz2 := hBB2.size
    clear hb hc1 hf1 hB1
    gi_wp2_with fail
    refine ⟨trivial, ?_⟩
    gi_at_call 8
    refine (callsIn_wide.2 (new_x _ (by omega))).mono ?_
    rintro _ u3 ⟨nb, nbb, rfl, hb, hP, hnb, hnbb⟩
    have hc3 : u3.cell? ⟨w.heap.size, 0, none⟩ = some (.bool false) := kc hb hc2
    have hf3 : u3.frozen? ⟨w.heap.size, 0, none⟩ = false := kfz hb (klt hc2) hf2
    have hx03 : u3.cell? ⟨u1.heap.size, 0, none⟩ = some (.int .u8 0) := kc hb hx0
    have hx13 : u3.cell? ⟨u1.heap.size, 1, none⟩ = some (.int .u8 0) := kc hb hx1
    have hB3' := kc hb hB2
    have hBB3 : Below w.heap.size w u3 := kb hBB2 hb
    have hz3 := hBB3.size
    clear hb hc2 hf2 hx0 hx1 hBB2 hB2
    have q0 := fun W => sec_not_nil B W
    unfold secF at q0 ⊢
    gi_wp2_with fail
    have HM3 := Lib.hid (And.intro hc3 (And.intro hf3 (And.intro hBB3 (And.intro hx03 hx13))))
    refine wpIn_rangeFunc_ownH rfl (by decide) (gf := 31) (lb := #[.pointer (some ⟨B, 0, none⟩)]) rfl trivial (enters_of Tryd.func31 (by kernel_rfl) rfl)
      (secn_stops (4 - 1) (by decide) B zeroM (Below u3.heap.size) u3 hB3') belowK_t (belowK_b (Nat.le_refl _)) (Below.refl _ _) (fun _ => rfl)
      (fun pre W => Below u3.heap.size u3 W)
      (fun c pre W => False)
      (ownFrom_below (Nat.le_refl _) (Nat.le_refl _))
      (fun c => fun _ _ _ _ h _ _ => h)
      (Below.refl _ _)
      (fun x a' W => True) (fun x a' _ _ _ _ _ _ _ => trivial)
      ?assign ?body ?done ?stop
    case assign => exact fun l pre x => absurd rfl x.2.2
    case body => exact fun l pre x => absurd rfl x.2.2
    case stop => exact fun D c pre W _ h => h.elim
    case done =>
      rintro D xs W hD rfl hW hK
      have hx_0 := kc hW HM3.out.2.2.2.1
      have hx_1 := kc hW HM3.out.2.2.2.2
      have HN := Lib.hid (show NilMid w D W from ⟨kc hW HM3.out.1, kfz hW (klt HM3.out.1) HM3.out.2.1, hK, kb HM3.out.2.2.1 hW⟩)
      clear hc3 hf3 hx03 hx13 hBB3 hB3' hW hK q0
      gi_wp2_with fail
      refine ⟨trivial, ?_⟩
      gi_at_call 22
      refine (callsIn_wide.2 (loadn_c a _ _)).mono ?_
      rintro _ v0 ⟨rfl, hb⟩
      have HN' := Lib.hid (HN.out.below hb)
      clear hb HN
      have HN := HN'
      clear HN'
      gi_wp2_with fail
      refine ⟨trivial, ?_⟩
      gi_at_call 23
      refine (callsIn_wide.2 (labeln_c a a 1 _)).mono ?_
      rintro _ v1 ⟨rfl, hb⟩
      have HN' := Lib.hid (HN.out.below hb)
      clear hb HN
      have HN := HN'
      clear HN'
      gi_wp2_with fail
      refine ⟨trivial, ?_⟩
      gi_at_call 18
      refine (callsIn_wide.2 (writen_c a 0 0 _)).mono ?_
      rintro _ v2 ⟨rfl, hb⟩
      have HN' := Lib.hid (HN.out.below hb)
      clear hb HN
      have HN := HN'
      clear HN'
      gi_wp2_with fail
      refine ⟨trivial, ?_⟩
      gi_at_call 15
      refine (callsIn_wide.2 (clonen_c _)).mono ?_
      rintro _ v3 ⟨rfl, hb⟩
      have HN' := Lib.hid (HN.out.below hb)
      clear hb HN
      have HN := HN'
      clear HN'
      gi_wp2_with fail
      refine ⟨trivial, ?_⟩
      gi_at_call 16
      refine (callsIn_wide.2 (samenn_c _)).mono ?_
      rintro _ v4 ⟨rfl, hb⟩
      have HN' := Lib.hid (HN.out.below hb)
      clear hb HN
      have HN := HN'
      clear HN'
      gi_wp2_with fail
      refine ⟨trivial, ?_⟩
      gi_at_call 16
      refine (callsIn_wide.2 (samenp_c ⟨nb, 0, none⟩ _)).mono ?_
      rintro _ v5 ⟨rfl, hb⟩
      have HN' := Lib.hid (HN.out.below hb)
      clear hb HN
      have HN := HN'
      clear HN'
      gi_wp2_with fail
      refine ⟨trivial, ?_⟩
      gi_at_call 16
      refine (callsIn_wide.2 (samepn_c ⟨nb, 0, none⟩ _)).mono ?_
      rintro _ v6 ⟨rfl, hb⟩
      have HN' := Lib.hid (HN.out.below hb)
      clear hb HN
      have HN := HN'
      clear HN'
      gi_wp2_with fail
      refine ⟨trivial, ?_⟩
      gi_at_call 10
      refine (callsIn_wide.2 (HA.out _ HN.out.b)).mono ?_
      rintro _ v7 ⟨rfl, hb⟩
      have HN' := Lib.hid (HN.out.below hb)
      clear hb HN
      have HN := HN'
      clear HN'
      have hc := HN.out.c
      have hf := HN.out.f
      gi_wp2
      have hK2 := (KeepsOthers.setCell v7 ⟨w.heap.size, 0, none⟩ (.bool true)).same D _ HN.out.d rfl
      have hB2 : Below w.heap.size w (v7.setCell ⟨w.heap.size, 0, none⟩ (.bool true)) := HN.out.b.setCell (p := ⟨w.heap.size, 0, none⟩) (Nat.le_refl _) _
      have c3 : (v7.setCell ⟨w.heap.size, 0, none⟩ (.bool true)).cell? ⟨w.heap.size, 0, none⟩ = some (.bool true) := by go_simp
      generalize v7.setCell ⟨w.heap.size, 0, none⟩ (.bool true) = W2 at *
      refine ⟨by simp, .inl ⟨_, _, rfl, run_takeDeferred hK2, ?_⟩⟩
      have d3 := cell_kept c3 (grownBy_putObj' _ D (.deferred none)) (fun r e => by cases e; exact ⟨_, hK2, rfl⟩)
      refine ⟨.bool true, ?_, rfl, hB2.trans (belowK_b (w := w) (Nat.le_refl _) W2 D _ _ (by omega) hK2 rfl rfl)⟩
      simp [results, Tryd.results6, go_sem, d3]
theorem nil_walk (a : Int) (hi : -9223372036854775808 ≤ a ∧ a ≤ 9223372036854775807) (l : List Int) (v : Value) (w : World) (hv : HoldsB w v l) (hb : ∀ x ∈ l, 0 ≤ x ∧ x ≤ 255) (hl : l.length ≤ 9223372036854775807) (hg : 0 < l.length → ∀ g, v.ownBlock = some g → g < w.heap.size) (hL : Laid w) :
    Calls Tryd.prog 6 #[.int .i64 a, v] w fun e w' => e = .returned (.bool true) ∧ Below w.heap.size w w' := by
  obtain ⟨p, c, rfl⟩ := hv.form
  exact callsIn_wide.1 (nil_in a p l.length c w hL)
end Go.Proofs.YtoakgchfdihjbaaDoor
