/-
  The program's Clone.
-/
import Derived.Test.YtbahjcnamalhcaaOutp11
import Derived.Test.YtbahjcnamalhcaaPlanR
set_option linter.unusedSimpArgs false
set_option linter.unusedVariables false
namespace Go.Proofs.Ytbahjcnamalhcaa
open Go.RowKit Go.PlainAid

/-- A call that answers a row of its own; one that answers a struct of one such row. -/
def kRow (T : TypeId) (k n : Nat) (xs : List Value) : KdR := .any undef (fun _ => True) (fun x w => w.ownsRow x.lo T k x.v n xs ∧ ∀ b, x.v.ownBlock = some b → b < x.hi)
theorem kRow_fine (T : TypeId) (k n : Nat) (xs : List Value) : (kRow T k n xs).Fine := ⟨trivial, fun x W w1 h hb => ⟨own_below h.1 hb, h.2⟩, fun _ _ _ => trivial⟩
def kRowA (T : TypeId) (k n : Nat) (xs : List Value) : KdR := .any (.agg #[undef]) (fun v => ∃ u, v = .agg #[u]) (fun x w => ∃ u, x.v = .agg #[u] ∧ w.ownsRow x.lo T k u n xs ∧ ∀ b, u.ownBlock = some b → b < x.hi)
theorem kRowA_fine (T : TypeId) (k n : Nat) (xs : List Value) : (kRowA T k n xs).Fine := ⟨⟨_, rfl⟩, fun x W w1 h hb => by obtain ⟨u, h1, h2, h3⟩ := h; exact ⟨u, h1, own_below h2 hb, h3⟩, fun x w h => by obtain ⟨u, h1, _⟩ := h; exact ⟨u, h1⟩⟩
set_option maxRecDepth 100000 in
theorem clonep_nil (w : World) : Calls Try.prog 10 #[.pointer none] w fun e w' => e = .returned (.pointer none) ∧ Below w.heap.size w w' := by
  go_enter Try.func10, Try.ntmps10
  go_wp2
  go_ret
  exact ⟨rfl, by go_grown⟩
set_option maxRecDepth 100000 in
set_option maxHeartbeats 8000000 in
theorem clonep_c (pb : Nat) (S : Po) (hS : Fit S) (F G : Nat → Prop) (w : World) (h : PO pb S F G w) :
    Calls Try.prog 10 #[.pointer (some ⟨pb, 0, none⟩)] w (NewEnd S (fun v => v) w) := by
  obtain ⟨x, y, a, b, c, h, rfl, rfl⟩ := h
  have hlt := h.hold.lt
  obtain ⟨⟨k2, o2⟩, ⟨k3, o3⟩, k4, o4⟩ := h.at0
  obtain ⟨p2, c2, rfl⟩ := own_form o2
  obtain ⟨p3, c3, rfl⟩ := own_form o3
  obtain ⟨p4, c4, rfl⟩ := own_form o4
  have hf := hS
  have hlog := hS.log
  have HI1 := Lib.hid (fun W (hW : Below w.heap.size w W) => clonei_b pb 0 _ S.pub (by have := hf.pub; omega) _ W (h.p.below hW))
  have HI2 := Lib.hid (fun W (hW : Below w.heap.size w W) => clonei_k pb 1 _ (secT S.sec) (by rw [secT_len]; have := hf.sec; omega) _ W (h.s.below hW))
  have HC2 := Lib.hid (fun W (hW : Below w.heap.size w W) => clone_b S.out (by have := hf.out; omega) _ W ((HoldsW.own bE_len o2).below hW))
  have HC3 := Lib.hid (fun W (hW : Below w.heap.size w W) => clone_k S.kept (by have := hf.kept; omega) _ W ((HoldsW.own kE_len o3).below hW))
  have HC4 := Lib.hid (fun W (hW : Below w.heap.size w W) => clone_e S.log (by have := hf.told; omega) _ W ((HoldsW.own eE_len o4).below hW))
  clear h o2 o3 o4 hf hlog hS
  generalize hn2 : S.out.length = n2 at *
  generalize hn3 : S.kept.length = n3 at *
  generalize hn4 : S.log.length = n4 at *
  have HN := Lib.hid (And.intro hn2 (And.intro hn3 hn4))
  clear hn2 hn3 hn4
  go_enter Try.func10, Try.ntmps10
  go_wp2_with fail
  refine wp_region_planD 9 23 (fun W => W.cell? ⟨pb, 2, none⟩ = some (.slice p2 n2 c2) ∧ W.cell? ⟨pb, 3, none⟩ = some (.slice p3 n3 c3) ∧ W.cell? ⟨pb, 4, none⟩ = some (.slice p4 n4 c4) ∧ Below w.heap.size w W)
    [.val (.pointer (some ⟨pb, 0, none⟩)), .val (.pointer (some ⟨pb, 0, none⟩)), .val (.pointer (some ⟨pb, 0, none⟩)), kRowA 5 1 S.pub.length (S.pub.flatMap bE), .val (.pointer (some ⟨pb, 0, none⟩)), .val (.pointer (some ⟨pb, 0, none⟩)), .val (.pointer (some ⟨pb, 1, none⟩)), kRowA 40 2 (secT S.sec).length ((secT S.sec).flatMap kE), .val (.pointer (some ⟨pb, 0, none⟩)), .val (.pointer (some ⟨pb, 0, none⟩)), .val (.pointer (some ⟨pb, 2, none⟩)), .val (.slice p2 n2 c2), kRow 5 1 n2 (S.out.flatMap bE), .val (.pointer (some ⟨pb, 0, none⟩)), .val (.pointer (some ⟨pb, 0, none⟩)), .val (.pointer (some ⟨pb, 3, none⟩)), .val (.slice p3 n3 c3), kRow 40 2 n3 (S.kept.flatMap kE), .val (.pointer (some ⟨pb, 0, none⟩)), .val (.pointer (some ⟨pb, 0, none⟩)), .val (.pointer (some ⟨pb, 4, none⟩)), .val (.slice p4 n4 c4), kRow 58 2 n4 (S.log.flatMap eE)]
    (by kernel_rfl) (by kernel_rfl) (by kernel_rfl) (by kernel_rfl) (by kernel_rfl) (fun W w1 h hb => ⟨kc hb h.1, kc hb h.2.1, kc hb h.2.2.1, h.2.2.2.trans (hb.mono h.2.2.2.size)⟩) ?_ ?_ ?_
  · intro k hk
    simp only [List.mem_cons, List.not_mem_nil, or_false] at hk
    rcases hk with rfl | rfl | rfl | rfl | rfl | rfl | rfl | rfl | rfl | rfl | rfl | rfl | rfl | rfl | rfl | rfl | rfl | rfl | rfl | rfl | rfl | rfl | rfl <;> first | exact trivial | exact kRow_fine _ _ _ _ | exact kRowA_fine _ _ _ _
  · exact ⟨k2, k3, k4, Below.drew (Below.refl _ _)⟩
  (try simp only [List.append_eq, List.cons_append, List.nil_append, List.toList_toArray, List.take_succ_cons, List.take_zero, List.drop_succ_cons, List.drop_zero])
  (iterate 3 (refine PlanR.val ?_ ?_ ?_; (· rfl); (· (intro W hSw; (try dsimp only at hSw); go_simp; all_goals (first | (with_reducible rfl) | (constructor <;> (with_reducible rfl))))); intro _ _; (try simp only [Act.put, List.setIfInBounds_toArray, List.set_cons_zero, List.set_cons_succ])))
  refine PlanR.any ?_ ?_ ?_
  · rfl
  · intro W hSw _
    (try dsimp only at hSw)
    go_simp
    refine ⟨rfl, (HI1.out W hSw.2.2.2).mono ?_⟩
    rintro _ u ⟨v', rfl, hv', hb⟩
    exact ⟨_, rfl, hb, v', rfl, hv', fun b hb2 => (hv'.lt b hb2).2⟩
  rintro ⟨_, lovx, hivx⟩ ⟨vx, rfl⟩
  (try simp only [Act.put, List.setIfInBounds_toArray, List.set_cons_zero, List.set_cons_succ])
  (iterate 3 (refine PlanR.val ?_ ?_ ?_; (· rfl); (· (intro W hSw; (try dsimp only at hSw); go_simp; all_goals (first | (with_reducible rfl) | (constructor <;> (with_reducible rfl))))); intro _ _; (try simp only [Act.put, List.setIfInBounds_toArray, List.set_cons_zero, List.set_cons_succ])))
  refine PlanR.any ?_ ?_ ?_
  · rfl
  · intro W hSw _
    (try dsimp only at hSw)
    go_simp
    refine ⟨rfl, (HI2.out W hSw.2.2.2).mono ?_⟩
    rintro _ u ⟨v', rfl, hv', hb⟩
    exact ⟨_, rfl, hb, v', rfl, hv', fun b hb2 => (hv'.lt b hb2).2⟩
  rintro ⟨_, lovy, hivy⟩ ⟨vy, rfl⟩
  (try simp only [Act.put, List.setIfInBounds_toArray, List.set_cons_zero, List.set_cons_succ])
  (iterate 4 (refine PlanR.val ?_ ?_ ?_; (· rfl); (· (intro W hSw; (try dsimp only at hSw); go_simp; all_goals (first | (with_reducible rfl) | (constructor <;> (with_reducible rfl))))); intro _ _; (try simp only [Act.put, List.setIfInBounds_toArray, List.set_cons_zero, List.set_cons_succ])))
  refine PlanR.any ?_ ?_ ?_
  · rfl
  · intro W hSw _
    (try dsimp only at hSw)
    go_simp
    refine ⟨rfl, (HC2.out W hSw.2.2.2).mono ?_⟩
    rintro _ u ⟨v', rfl, hv', hb⟩
    exact ⟨_, rfl, hb, hv', fun b hb2 => (hv'.lt b hb2).2⟩
  rintro ⟨va, lova, hiva⟩ _
  (try simp only [Act.put, List.setIfInBounds_toArray, List.set_cons_zero, List.set_cons_succ])
  (iterate 4 (refine PlanR.val ?_ ?_ ?_; (· rfl); (· (intro W hSw; (try dsimp only at hSw); go_simp; all_goals (first | (with_reducible rfl) | (constructor <;> (with_reducible rfl))))); intro _ _; (try simp only [Act.put, List.setIfInBounds_toArray, List.set_cons_zero, List.set_cons_succ])))
  refine PlanR.any ?_ ?_ ?_
  · rfl
  · intro W hSw _
    (try dsimp only at hSw)
    go_simp
    refine ⟨rfl, (HC3.out W hSw.2.2.2).mono ?_⟩
    rintro _ u ⟨v', rfl, hv', hb⟩
    exact ⟨_, rfl, hb, hv', fun b hb2 => (hv'.lt b hb2).2⟩
  rintro ⟨vb, lovb, hivb⟩ _
  (try simp only [Act.put, List.setIfInBounds_toArray, List.set_cons_zero, List.set_cons_succ])
  (iterate 4 (refine PlanR.val ?_ ?_ ?_; (· rfl); (· (intro W hSw; (try dsimp only at hSw); go_simp; all_goals (first | (with_reducible rfl) | (constructor <;> (with_reducible rfl))))); intro _ _; (try simp only [Act.put, List.setIfInBounds_toArray, List.set_cons_zero, List.set_cons_succ])))
  refine PlanR.any ?_ ?_ ?_
  · rfl
  · intro W hSw _
    (try dsimp only at hSw)
    go_simp
    refine ⟨rfl, (HC4.out W hSw.2.2.2).mono ?_⟩
    rintro _ u ⟨v', rfl, hv', hb⟩
    exact ⟨_, rfl, hb, hv', fun b hb2 => (hv'.lt b hb2).2⟩
  rintro ⟨vc, lovc, hivc⟩ _
  (try simp only [Act.put, List.setIfInBounds_toArray, List.set_cons_zero, List.set_cons_succ])
  refine PlanR.done ?_
  intro u G
  have hB : Below w.heap.size w u := G.s.2.2.2
  obtain ⟨⟨ux, ex, hx, lx⟩, -, bx2, bx3⟩ := G.each 3 (by decide) rfl
  obtain ⟨⟨uy, ey, hy, ly⟩, -, by2, by3⟩ := G.each 7 (by decide) rfl
  obtain ⟨⟨h2, l2⟩, b21, b22, b23⟩ := G.each 12 (by decide) rfl
  obtain ⟨⟨h3, l3⟩, b31, b32, b33⟩ := G.each 17 (by decide) rfl
  obtain ⟨⟨h4, l4⟩, b41, b42, b43⟩ := G.each 22 (by decide) rfl
  have ax := (G.each 3 (by decide) rfl).2.1
  have ay := (G.each 7 (by decide) rfl).2.1
  have e1 := G.apart 3 12 (by decide) (by decide) rfl rfl (by decide)
  have e2 := G.apart 3 17 (by decide) (by decide) rfl rfl (by decide)
  have e3 := G.apart 3 22 (by decide) (by decide) rfl rfl (by decide)
  have e4 := G.apart 7 12 (by decide) (by decide) rfl rfl (by decide)
  have e5 := G.apart 7 17 (by decide) (by decide) rfl rfl (by decide)
  have e6 := G.apart 7 22 (by decide) (by decide) rfl rfl (by decide)
  have e7 := G.apart 12 17 (by decide) (by decide) rfl rfl (by decide)
  have e8 := G.apart 12 22 (by decide) (by decide) rfl rfl (by decide)
  have e9 := G.apart 17 22 (by decide) (by decide) rfl rfl (by decide)
  clear G
  simp (config := { decide := true }) only [if_true, if_false, ite_true, ite_false, Nat.reduceEqDiff, reduceIte] at ex hx lx ey hy ly h2 l2 h3 l3 h4 l4 bx2 bx3 by2 by3 b21 b22 b23 b31 b32 b33 b41 b42 b43 ax ay e1 e2 e3 e4 e5 e6 e7 e8 e9
  obtain ⟨px, cx, fx⟩ := own_form hx
  obtain ⟨py, cy, fy⟩ := own_form hy
  obtain ⟨pa, ca, rfl⟩ := own_form h2
  obtain ⟨pb', cb, rfl⟩ := own_form h3
  obtain ⟨pc, cc, rfl⟩ := own_form h4
  injection ex with ex
  injection ey with ey
  cases ex
  cases ey
  subst fx
  subst fy
  have HR := Lib.hid (po_new (S := S) (T := 67) hB (own_low hx ax) (own_low hy ay) (own_low (by rw [HN.out.1]; exact h2) b21) (own_low (by rw [HN.out.2.1]; exact h3) b31) (own_low (by rw [HN.out.2.2]; exact h4) b41)
    (fun k hk => by
      have q1 := hx.lt k hk
      have q2 := lx k hk
      refine ⟨fun e => ?_, fun e => ?_, fun e => ?_⟩
      · have r1 := h2.lt k e; have r2 := l2 k e; omega
      · have r1 := h3.lt k e; have r2 := l3 k e; omega
      · have r1 := h4.lt k e; have r2 := l4 k e; omega)
    (fun k hk => by
      have q1 := hy.lt k hk
      have q2 := ly k hk
      refine ⟨fun e => ?_, fun e => ?_, fun e => ?_⟩
      · have r1 := h2.lt k e; have r2 := l2 k e; omega
      · have r1 := h3.lt k e; have r2 := l3 k e; omega
      · have r1 := h4.lt k e; have r2 := l4 k e; omega)
    (fun k hk => by
      have q1 := h2.lt k hk
      have q2 := l2 k hk
      refine ⟨fun e => ?_, fun e => ?_⟩
      · have r1 := h3.lt k e; have r2 := l3 k e; omega
      · have r1 := h4.lt k e; have r2 := l4 k e; omega)
    (fun k hk => by
      have q1 := h3.lt k hk
      have q2 := l3 k hk
      intro e
      have r1 := h4.lt k e; have r2 := l4 k e; omega))
  have HB := Lib.hid hB
  clear hx hy h2 h3 h4 lx ly l2 l3 l4 bx2 bx3 by2 by3 b21 b22 b23 b31 b32 b33 b41 b42 b43 ax ay e1 e2 e3 e4 e5 e6 e7 e8 e9 hB
  go_wp2
  go_ret
  obtain ⟨F, G, hP, hG⟩ := HR.out
  exact ⟨_, F, G, rfl, hP, hG, HB.out.size, HB.out.alloc HB.out.size _⟩
end Go.Proofs.Ytbahjcnamalhcaa
