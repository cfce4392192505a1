/-
  The program's Clone.
  The program's Low, where two ports are the same but for what is secret.
-/
import Derived.Test.YtcnejgilmciljaaDoorOutp11
import Derived.Test.YtcnejgilmciljaaDoorPlanR
set_option linter.unusedSimpArgs false
set_option linter.unusedVariables false
namespace Go.Proofs.YtcnejgilmciljaaDoor
open Go.RowKit Go.PlainAid

/-- A call that answers a row of its own; one that answers a struct of one such row. -/
def kRow (T : TypeId) (k n : Nat) (xs : List Value) : KdR := .any undef (fun _ => True) (fun x w => w.ownsRow x.lo T k x.v n xs ∧ ∀ b, x.v.ownBlock = some b → b < x.hi)
theorem kRow_fine (T : TypeId) (k n : Nat) (xs : List Value) : (kRow T k n xs).Fine := ⟨trivial, fun x W w1 h hb => ⟨own_below h.1 hb, h.2⟩, fun _ _ _ => trivial⟩
def kRowA (T : TypeId) (k n : Nat) (xs : List Value) : KdR := .any (.agg #[undef]) (fun v => ∃ u, v = .agg #[u]) (fun x w => ∃ u, x.v = .agg #[u] ∧ w.ownsRow x.lo T k u n xs ∧ ∀ b, u.ownBlock = some b → b < x.hi)
theorem kRowA_fine (T : TypeId) (k n : Nat) (xs : List Value) : (kRowA T k n xs).Fine := ⟨⟨_, rfl⟩, fun x W w1 h hb => by obtain ⟨u, h1, h2, h3⟩ := h; exact ⟨u, h1, own_below h2 hb, h3⟩, fun x w h => by obtain ⟨u, h1, _⟩ := h; exact ⟨u, h1⟩⟩
set_option maxRecDepth 100000 in
theorem clonep_nil (w : World) : Calls Tryd.prog 30 #[.pointer none] w fun e w' => e = .returned (.pointer none) ∧ Below w.heap.size w w' := by
  go_enter Tryd.func30, Tryd.ntmps30
  go_wp2
  go_ret
  exact ⟨rfl, by go_grown⟩
set_option maxRecDepth 100000 in
set_option maxHeartbeats 8000000 in
theorem pclone_c (pb : Nat) (S : Po) (hS : Fit S) (F G : Nat → Prop) (w : World) (h : PO pb S F G w) :
    Calls Tryd.prog 30 #[.pointer (some ⟨pb, 0, none⟩)] w (NewEndP S (fun v => v) w) := by
  obtain ⟨x, y, a, b, c, h, rfl, rfl⟩ := h
  have hlt := h.hold.lt
  obtain ⟨⟨k2, o2⟩, ⟨k3, o3⟩, k4, o4⟩ := h.at0
  obtain ⟨p2, c2, rfl⟩ := own_form o2
  obtain ⟨p3, c3, rfl⟩ := own_form o3
  obtain ⟨p4, c4, rfl⟩ := own_form o4
  have hf := hS
  have hlog := hS.log
  have HI1 := Lib.hid (fun W (hW : Below w.heap.size w W) => clonei_b pb 0 _ S.pub (by have := hf.pub; omega) _ W (h.p.below hW))
  have HI2 := Lib.hid (fun W (hW : Below w.heap.size w W) => clonei_k pb 1 _ (secT S.sec) (by rw [secT_len]; have := hf.sec; omega) _ W (h.s.below hW))
  have HC2 := Lib.hid (fun W (hW : Below w.heap.size w W) => clone_b S.out (by have := hf.out; omega) _ W ((HoldsW.own bE_len o2).below hW))
  have HC3 := Lib.hid (fun W (hW : Below w.heap.size w W) => clone_k S.kept (by have := hf.kept; omega) _ W ((HoldsW.own kE_len o3).below hW))
  have HC4 := Lib.hid (fun W (hW : Below w.heap.size w W) => clone_e S.log (by have := hf.told; omega) _ W ((HoldsW.own eE_len o4).below hW))
  clear h o2 o3 o4 hf hlog hS
  generalize hn2 : S.out.length = n2 at *
  generalize hn3 : S.kept.length = n3 at *
  generalize hn4 : S.log.length = n4 at *
  have HN := Lib.hid (And.intro hn2 (And.intro hn3 hn4))
  clear hn2 hn3 hn4
  go_enter Tryd.func30, Tryd.ntmps30
  go_wp2_with fail
  refine wp_region_planD 9 23 (fun W => W.cell? ⟨pb, 2, none⟩ = some (.slice p2 n2 c2) ∧ W.cell? ⟨pb, 3, none⟩ = some (.slice p3 n3 c3) ∧ W.cell? ⟨pb, 4, none⟩ = some (.slice p4 n4 c4) ∧ Below w.heap.size w W)
    [.val (.pointer (some ⟨pb, 0, none⟩)), .val (.pointer (some ⟨pb, 0, none⟩)), .val (.pointer (some ⟨pb, 0, none⟩)), kRowA 5 1 S.pub.length (S.pub.flatMap bE), .val (.pointer (some ⟨pb, 0, none⟩)), .val (.pointer (some ⟨pb, 0, none⟩)), .val (.pointer (some ⟨pb, 1, none⟩)), kRowA 23 2 (secT S.sec).length ((secT S.sec).flatMap kE), .val (.pointer (some ⟨pb, 0, none⟩)), .val (.pointer (some ⟨pb, 0, none⟩)), .val (.pointer (some ⟨pb, 2, none⟩)), .val (.slice p2 n2 c2), kRow 5 1 n2 (S.out.flatMap bE), .val (.pointer (some ⟨pb, 0, none⟩)), .val (.pointer (some ⟨pb, 0, none⟩)), .val (.pointer (some ⟨pb, 3, none⟩)), .val (.slice p3 n3 c3), kRow 23 2 n3 (S.kept.flatMap kE), .val (.pointer (some ⟨pb, 0, none⟩)), .val (.pointer (some ⟨pb, 0, none⟩)), .val (.pointer (some ⟨pb, 4, none⟩)), .val (.slice p4 n4 c4), kRow 107 2 n4 (S.log.flatMap eE)]
    (by kernel_rfl) (by kernel_rfl) (by kernel_rfl) (by kernel_rfl) (by kernel_rfl) (fun W w1 h hb => ⟨kc hb h.1, kc hb h.2.1, kc hb h.2.2.1, h.2.2.2.trans (hb.mono h.2.2.2.size)⟩) ?_ ?_ ?_
  · intro k hk
    simp only [List.mem_cons, List.not_mem_nil, or_false] at hk
    rcases hk with rfl | rfl | rfl | rfl | rfl | rfl | rfl | rfl | rfl | rfl | rfl | rfl | rfl | rfl | rfl | rfl | rfl | rfl | rfl | rfl | rfl | rfl | rfl <;> first | exact trivial | exact kRow_fine _ _ _ _ | exact kRowA_fine _ _ _ _
  · exact ⟨k2, k3, k4, Below.drew (Below.refl _ _)⟩
  (try simp only [List.append_eq, List.cons_append, List.nil_append, List.toList_toArray, List.take_succ_cons, List.take_zero, List.drop_succ_cons, List.drop_zero])
  (iterate 3 (refine PlanR.val ?_ ?_ ?_; (· rfl); (· (intro W hSw; (try dsimp only at hSw); go_simp; all_goals (first | (with_reducible rfl) | (constructor <;> (with_reducible rfl))))); intro _ _; (try simp only [Act.put, List.setIfInBounds_toArray, List.set_cons_zero, List.set_cons_succ])))
  refine PlanR.any ?_ ?_ ?_
  · rfl
  · intro W hSw _
    (try dsimp only at hSw)
    go_simp
    refine ⟨rfl, (HI1.out W hSw.2.2.2).mono ?_⟩
    rintro _ u ⟨v', rfl, hv', hb⟩
    exact ⟨_, rfl, hb, v', rfl, hv', fun b hb2 => (hv'.lt b hb2).2⟩
  rintro ⟨_, lovx, hivx⟩ ⟨vx, rfl⟩
  (try simp only [Act.put, List.setIfInBounds_toArray, List.set_cons_zero, List.set_cons_succ])
  (iterate 3 (refine PlanR.val ?_ ?_ ?_; (· rfl); (· (intro W hSw; (try dsimp only at hSw); go_simp; all_goals (first | (with_reducible rfl) | (constructor <;> (with_reducible rfl))))); intro _ _; (try simp only [Act.put, List.setIfInBounds_toArray, List.set_cons_zero, List.set_cons_succ])))
  refine PlanR.any ?_ ?_ ?_
  · rfl
  · intro W hSw _
    (try dsimp only at hSw)
    go_simp
    refine ⟨rfl, (HI2.out W hSw.2.2.2).mono ?_⟩
    rintro _ u ⟨v', rfl, hv', hb⟩
    exact ⟨_, rfl, hb, v', rfl, hv', fun b hb2 => (hv'.lt b hb2).2⟩
  rintro ⟨_, lovy, hivy⟩ ⟨vy, rfl⟩
  (try simp only [Act.put, List.setIfInBounds_toArray, List.set_cons_zero, List.set_cons_succ])
  (iterate 4 (refine PlanR.val ?_ ?_ ?_; (· rfl); (· (intro W hSw; (try dsimp only at hSw); go_simp; all_goals (first | (with_reducible rfl) | (constructor <;> (with_reducible rfl))))); intro _ _; (try simp only [Act.put, List.setIfInBounds_toArray, List.set_cons_zero, List.set_cons_succ])))
  refine PlanR.any ?_ ?_ ?_
  · rfl
  · intro W hSw _
    (try dsimp only at hSw)
    go_simp
    refine ⟨rfl, (HC2.out W hSw.2.2.2).mono ?_⟩
    rintro _ u ⟨v', rfl, hv', hb⟩
    exact ⟨_, rfl, hb, hv', fun b hb2 => (hv'.lt b hb2).2⟩
  rintro ⟨va, lova, hiva⟩ _
  (try simp only [Act.put, List.setIfInBounds_toArray, List.set_cons_zero, List.set_cons_succ])
  (iterate 4 (refine PlanR.val ?_ ?_ ?_; (· rfl); (· (intro W hSw; (try dsimp only at hSw); go_simp; all_goals (first | (with_reducible rfl) | (constructor <;> (with_reducible rfl))))); intro _ _; (try simp only [Act.put, List.setIfInBounds_toArray, List.set_cons_zero, List.set_cons_succ])))
  refine PlanR.any ?_ ?_ ?_
  · rfl
  · intro W hSw _
    (try dsimp only at hSw)
    go_simp
    refine ⟨rfl, (HC3.out W hSw.2.2.2).mono ?_⟩
    rintro _ u ⟨v', rfl, hv', hb⟩
    exact ⟨_, rfl, hb, hv', fun b hb2 => (hv'.lt b hb2).2⟩
  rintro ⟨vb, lovb, hivb⟩ _
  (try simp only [Act.put, List.setIfInBounds_toArray, List.set_cons_zero, List.set_cons_succ])
  (iterate 4 (refine PlanR.val ?_ ?_ ?_; (· rfl); (· (intro W hSw; (try dsimp only at hSw); go_simp; all_goals (first | (with_reducible rfl) | (constructor <;> (with_reducible rfl))))); intro _ _; (try simp only [Act.put, List.setIfInBounds_toArray, List.set_cons_zero, List.set_cons_succ])))
  refine PlanR.any ?_ ?_ ?_
  · rfl
  · intro W hSw _
    (try dsimp only at hSw)
    go_simp
    refine ⟨rfl, (HC4.out W hSw.2.2.2).mono ?_⟩
    rintro _ u ⟨v', rfl, hv', hb⟩
    exact ⟨_, rfl, hb, hv', fun b hb2 => (hv'.lt b hb2).2⟩
  rintro ⟨vc, lovc, hivc⟩ _
  (try simp only [Act.put, List.setIfInBounds_toArray, List.set_cons_zero, List.set_cons_succ])
  refine PlanR.done ?_
  intro u G
  have hB : Below w.heap.size w u := G.s.2.2.2
  obtain ⟨⟨ux, ex, hx, lx⟩, -, bx2, bx3⟩ := G.each 3 (by decide) rfl
  obtain ⟨⟨uy, ey, hy, ly⟩, -, by2, by3⟩ := G.each 7 (by decide) rfl
  obtain ⟨⟨h2, l2⟩, b21, b22, b23⟩ := G.each 12 (by decide) rfl
  obtain ⟨⟨h3, l3⟩, b31, b32, b33⟩ := G.each 17 (by decide) rfl
  obtain ⟨⟨h4, l4⟩, b41, b42, b43⟩ := G.each 22 (by decide) rfl
  have ax := (G.each 3 (by decide) rfl).2.1
  have ay := (G.each 7 (by decide) rfl).2.1
  have e1 := G.apart 3 12 (by decide) (by decide) rfl rfl (by decide)
  have e2 := G.apart 3 17 (by decide) (by decide) rfl rfl (by decide)
  have e3 := G.apart 3 22 (by decide) (by decide) rfl rfl (by decide)
  have e4 := G.apart 7 12 (by decide) (by decide) rfl rfl (by decide)
  have e5 := G.apart 7 17 (by decide) (by decide) rfl rfl (by decide)
  have e6 := G.apart 7 22 (by decide) (by decide) rfl rfl (by decide)
  have e7 := G.apart 12 17 (by decide) (by decide) rfl rfl (by decide)
  have e8 := G.apart 12 22 (by decide) (by decide) rfl rfl (by decide)
  have e9 := G.apart 17 22 (by decide) (by decide) rfl rfl (by decide)
  clear G
  simp (config := { decide := true }) only [if_true, if_false, ite_true, ite_false, Nat.reduceEqDiff, reduceIte] at ex hx lx ey hy ly h2 l2 h3 l3 h4 l4 bx2 bx3 by2 by3 b21 b22 b23 b31 b32 b33 b41 b42 b43 ax ay e1 e2 e3 e4 e5 e6 e7 e8 e9
  obtain ⟨px, cx, fx⟩ := own_form hx
  obtain ⟨py, cy, fy⟩ := own_form hy
  obtain ⟨pa, ca, rfl⟩ := own_form h2
  obtain ⟨pb', cb, rfl⟩ := own_form h3
  obtain ⟨pc, cc, rfl⟩ := own_form h4
  injection ex with ex
  injection ey with ey
  cases ex
  cases ey
  subst fx
  subst fy
  have HR := Lib.hid (po_new (S := S) (T := 68) hB (own_low hx ax) (own_low hy ay) (own_low (by rw [HN.out.1]; exact h2) b21) (own_low (by rw [HN.out.2.1]; exact h3) b31) (own_low (by rw [HN.out.2.2]; exact h4) b41)
    (fun k hk => by
      have q1 := hx.lt k hk
      have q2 := lx k hk
      refine ⟨fun e => ?_, fun e => ?_, fun e => ?_⟩
      · have r1 := h2.lt k e; have r2 := l2 k e; omega
      · have r1 := h3.lt k e; have r2 := l3 k e; omega
      · have r1 := h4.lt k e; have r2 := l4 k e; omega)
    (fun k hk => by
      have q1 := hy.lt k hk
      have q2 := ly k hk
      refine ⟨fun e => ?_, fun e => ?_, fun e => ?_⟩
      · have r1 := h2.lt k e; have r2 := l2 k e; omega
      · have r1 := h3.lt k e; have r2 := l3 k e; omega
      · have r1 := h4.lt k e; have r2 := l4 k e; omega)
    (fun k hk => by
      have q1 := h2.lt k hk
      have q2 := l2 k hk
      refine ⟨fun e => ?_, fun e => ?_⟩
      · have r1 := h3.lt k e; have r2 := l3 k e; omega
      · have r1 := h4.lt k e; have r2 := l4 k e; omega)
    (fun k hk => by
      have q1 := h3.lt k hk
      have q2 := l3 k hk
      intro e
      have r1 := h4.lt k e; have r2 := l4 k e; omega))
  have HB := Lib.hid hB
  clear hx hy h2 h3 h4 lx ly l2 l3 l4 bx2 bx3 by2 by3 b21 b22 b23 b31 b32 b33 b41 b42 b43 ax ay e1 e2 e3 e4 e5 e6 e7 e8 e9 hB
  go_wp2
  go_ret
  obtain ⟨F, G, hP, hG⟩ := HR.out
  exact ⟨_, F, G, rfl, hP, hG, HB.out.size, HB.out.alloc HB.out.size _⟩
end Go.Proofs.YtcnejgilmciljaaDoor
set_option linter.unusedSimpArgs false
set_option linter.unusedVariables false
namespace Go.Proofs.YtcnejgilmciljaaDoor
open Go.RowKit Go.PlainAid

def alikeB (a b : Int × Int) : Prop := a.2 = b.2 ∧ bits .andNot .u8 a.1 a.2 = bits .andNot .u8 b.1 b.2
/-- Rows of bytes that are the same but for secrets. -/
structure AlikeL (l m : List (Int × Int)) : Prop where
  len : l.length = m.length
  at_ : ∀ (j : Nat) (a b : Int × Int), l[j]? = some a → m[j]? = some b → alikeB a b
theorem alikeL_refl (l : List (Int × Int)) : AlikeL l l := ⟨rfl, fun j a b h1 h2 => by obtain rfl := Option.some.inj (h1.symm.trans h2); exact ⟨rfl, rfl⟩⟩
set_option maxRecDepth 100000 in
theorem alike_c (a b : Int × Int) (h : alikeB a b) (w : World) : Calls Tryd.prog 51 #[.agg #[.int .u8 a.1, .int .u8 a.2], .agg #[.int .u8 b.1, .int .u8 b.2]] w fun e w' => e = .returned (.bool true) ∧ Below w.heap.size w w' := by
  obtain ⟨a1, a2⟩ := a
  obtain ⟨b1, b2⟩ := b
  obtain ⟨h1, h2⟩ := h
  dsimp only at h1 h2
  subst h1
  dsimp only
  generalize hx : bits .andNot .u8 a1 a2 = X at *
  have hy := h2.symm
  clear h2
  go_enter Tryd.func51, Tryd.ntmps51
  go_wp2
  go_ret
  exact ⟨rfl, by go_grown⟩
set_option maxRecDepth 100000 in
set_option maxHeartbeats 2000000 in
theorem equal_b (l : List (Int)) (hl : l.length ≤ 100000) (v1 v2 : Value) (w : World) (h1 : HoldsW bE 1 w v1 l) (h2 : HoldsW bE 1 w v2 l) :
    Calls Tryd.prog 49 #[v1, v2] w fun e w' => e = .returned (.bool true) ∧ Below w.heap.size w w' := by
  obtain ⟨p1, c1, rfl⟩ := h1.form
  obtain ⟨p2, c2, rfl⟩ := h2.form
  have H1 := Lib.hid h1
  have H2 := Lib.hid h2
  obtain ⟨n, hn⟩ : ∃ n, l.length = n := ⟨_, rfl⟩
  rw [hn] at hl ⊢
  have HN := Lib.hid hn
  have HB := Lib.hid (Below.refl w.heap.size w)
  clear h1 h2 hn
  go_enter Tryd.func49, Tryd.ntmps49
  go_wp2_with fail
  go_loopg [13] n (fun kx s5 wr => ∃ k : Nat, s5 = .int .i64 k ∧ k ≤ n ∧ n - k ≤ kx ∧ Hid (Below w.heap.size w wr))
  case atStart => exact ⟨0, by simp, Nat.zero_le _, by omega, HB⟩
  case round =>
    obtain ⟨k, rfl, hk, hkx, HBr⟩ := hrel
    by_cases hlt : k < n
    · have hkl : k < l.length := by have := HN.out; omega
      obtain ⟨g1, o1, cap1, e1, _, hc1⟩ := H1.out.some (by omega)
      obtain ⟨g2, o2, cap2, e2, _, hc2⟩ := H2.out.some (by omega)
      obtain ⟨rfl, -, rfl⟩ := Value.slice.inj e1
      obtain ⟨rfl, -, rfl⟩ := Value.slice.inj e2
      have x1 := hc1 k _ (List.getElem?_eq_getElem hkl) 0 _ rfl
      have x2 := hc2 k _ (List.getElem?_eq_getElem hkl) 0 _ rfl
      rw [Nat.mul_one, Nat.add_zero] at x1 x2
      generalize l[k] = X at *
      have hg1 := klt x1
      have hg2 := klt x2
      have hB := HBr.out
      have hin : (0 : Int) ≤ (k : Int) ∧ (k : Int) < (n : Int) := by omega
      clear e1 e2 hc1 hc2 hkl
      have hp_0 := kc hB x1
      have hq_0 := kc hB x2
      clear x1 x2
      clear hB
      have hB := HBr.out
      have hl1 := klt hp_0
      have hl2 := klt hq_0
      go_wp2_with fail
      refine wp_region_plan (fun w' => w'.cell? ⟨g1, o1 + k, none⟩ = some (.int .u8 X) ∧ w'.cell? ⟨g2, o2 + k, none⟩ = some (.int .u8 X) ∧ Below w.heap.size w w') (by kernel_rfl) (by kernel_rfl) (by kernel_rfl) ?_ ?_
      · (try dsimp only)
        refine ⟨?_, ?_, ?_⟩ <;> first | (go_simp; done) | (simp [*]; done) | go_grown
      repeat (first
        | (refine Plan.val (v := ?_) ?_ ?_ ?_; rotate_left; (· rfl); (· (intro W hSw; (try dsimp only at hSw); go_simp; all_goals (first | (with_reducible rfl) | (constructor <;> (with_reducible rfl)) | (rw [if_neg (by omega)]; done) | (rw [if_neg (by omega)]; with_reducible rfl)))); (try simp only [Act.put, List.setIfInBounds_toArray, List.set_cons_zero, List.set_cons_succ]))
        | (refine Plan.no ?_ ?_; (· rfl); (try simp only [Act.put, List.setIfInBounds_toArray, List.set_cons_zero, List.set_cons_succ])))
      refine Plan.done ?_
      intro u T
      (try dsimp only at T)
      obtain ⟨hp_0, hq_0, hB⟩ := T
      have hsz := hB.size
      have hlp := klt hp_0
      have hlq := klt hq_0
      obtain ⟨hnp0, hnp1, hkp1, hnp2, hkp2⟩ := ap0 hlp
      obtain ⟨hnq0, hnq1, hkq1, hnq2, hkq2⟩ := ap0 hlq
      have HB2 := Lib.hid hB
      go_wp2
      go_roundg (n - (k + 1))
      case measure => omega
      case rel => exact ⟨k + 1, by go_num, by omega, by omega, HB2⟩
    · have hge : (n : Int) ≤ (k : Int) := by omega
      go_wp2
      go_ret
      exact ⟨rfl, HBr.out⟩
set_option maxRecDepth 100000 in
set_option maxHeartbeats 2000000 in
theorem equal_e (l : List (Int × Int)) (hl : l.length ≤ 100000) (v1 v2 : Value) (w : World) (h1 : HoldsW eE 2 w v1 l) (h2 : HoldsW eE 2 w v2 l) :
    Calls Tryd.prog 52 #[v1, v2] w fun e w' => e = .returned (.bool true) ∧ Below w.heap.size w w' := by
  obtain ⟨p1, c1, rfl⟩ := h1.form
  obtain ⟨p2, c2, rfl⟩ := h2.form
  have H1 := Lib.hid h1
  have H2 := Lib.hid h2
  obtain ⟨n, hn⟩ : ∃ n, l.length = n := ⟨_, rfl⟩
  rw [hn] at hl ⊢
  have HN := Lib.hid hn
  have HB := Lib.hid (Below.refl w.heap.size w)
  clear h1 h2 hn
  go_enter Tryd.func52, Tryd.ntmps52
  go_wp2_with fail
  go_loopg [13] n (fun kx s5 wr => ∃ k : Nat, s5 = .int .i64 k ∧ k ≤ n ∧ n - k ≤ kx ∧ Hid (Below w.heap.size w wr))
  case atStart => exact ⟨0, by simp, Nat.zero_le _, by omega, HB⟩
  case round =>
    obtain ⟨k, rfl, hk, hkx, HBr⟩ := hrel
    by_cases hlt : k < n
    · have hkl : k < l.length := by have := HN.out; omega
      obtain ⟨g1, o1, cap1, e1, _, hc1⟩ := H1.out.some (by omega)
      obtain ⟨g2, o2, cap2, e2, _, hc2⟩ := H2.out.some (by omega)
      obtain ⟨rfl, -, rfl⟩ := Value.slice.inj e1
      obtain ⟨rfl, -, rfl⟩ := Value.slice.inj e2
      have x1 := hc1 k _ (List.getElem?_eq_getElem hkl) 0 _ rfl
      have x2 := hc2 k _ (List.getElem?_eq_getElem hkl) 0 _ rfl
      have y1 := hc1 k _ (List.getElem?_eq_getElem hkl) 1 _ rfl
      have y2 := hc2 k _ (List.getElem?_eq_getElem hkl) 1 _ rfl
      rw [Nat.add_zero] at x1 x2
      obtain ⟨X, hX⟩ : ∃ X, l[k] = X := ⟨_, rfl⟩
      rw [hX] at x1 x2 y1 y2
      obtain ⟨X, Y⟩ := X
      dsimp only at x1 x2 y1 y2
      clear hX
      have hg1 := klt x1
      have hg2 := klt x2
      have hB := HBr.out
      have hin : (0 : Int) ≤ (k : Int) ∧ (k : Int) < (n : Int) := by omega
      clear e1 e2 hc1 hc2 hkl
      have hp_0 := kc hB x1
      have hq_0 := kc hB x2
      have hp_1 := kc hB y1
      have hq_1 := kc hB y2
      clear x1 x2 y1 y2
      clear hB
      have hB := HBr.out
      have hl1 := klt hp_0
      have hl2 := klt hq_0
      go_wp2_with fail
      refine wp_region_plan (fun w' => w'.cell? ⟨g1, o1 + k * 2, none⟩ = some (.int .i64 X) ∧ w'.cell? ⟨g1, o1 + k * 2 + 1, none⟩ = some (.int .u8 Y) ∧ w'.cell? ⟨g2, o2 + k * 2, none⟩ = some (.int .i64 X) ∧ w'.cell? ⟨g2, o2 + k * 2 + 1, none⟩ = some (.int .u8 Y) ∧ Below w.heap.size w w') (by kernel_rfl) (by kernel_rfl) (by kernel_rfl) ?_ ?_
      · (try dsimp only)
        refine ⟨?_, ?_, ?_, ?_, ?_⟩ <;> first | (go_simp; done) | (simp [*]; done) | go_grown
      repeat (first
        | (refine Plan.val (v := ?_) ?_ ?_ ?_; rotate_left; (· rfl); (· (intro W hSw; (try dsimp only at hSw); go_simp; all_goals (first | (with_reducible rfl) | (constructor <;> (with_reducible rfl)) | (rw [if_neg (by omega)]; done) | (rw [if_neg (by omega)]; with_reducible rfl)))); (try simp only [Act.put, List.setIfInBounds_toArray, List.set_cons_zero, List.set_cons_succ]))
        | (refine Plan.no ?_ ?_; (· rfl); (try simp only [Act.put, List.setIfInBounds_toArray, List.set_cons_zero, List.set_cons_succ])))
      refine Plan.done ?_
      intro u T
      (try dsimp only at T)
      obtain ⟨hp_0, hp_1, hq_0, hq_1, hB⟩ := T
      have hsz := hB.size
      have hlp := klt hp_0
      have hlq := klt hq_0
      obtain ⟨hnp0, hnp1, hkp1, hnp2, hkp2⟩ := ap0 hlp
      obtain ⟨hnq0, hnq1, hkq1, hnq2, hkq2⟩ := ap0 hlq
      have HB2 := Lib.hid hB
      go_wp2
      go_roundg (n - (k + 1))
      case measure => omega
      case rel => exact ⟨k + 1, by go_num, by omega, by omega, HB2⟩
    · have hge : (n : Int) ≤ (k : Int) := by omega
      go_wp2
      go_ret
      exact ⟨rfl, HBr.out⟩
set_option maxRecDepth 100000 in
set_option maxHeartbeats 2000000 in
theorem equalf_k (l m : List (Int × Int)) (hA : AlikeL l m) (hl : l.length ≤ 100000) (v1 v2 : Value) (w : World) (h1 : HoldsW kE 2 w v1 l) (h2 : HoldsW kE 2 w v2 m) :
    Calls Tryd.prog 50 #[v1, v2, .func (.func 51) #[] #[]] w fun e w' => e = .returned (.bool true) ∧ Below w.heap.size w w' := by
  obtain ⟨p1, c1, rfl⟩ := h1.form
  obtain ⟨p2, c2, rfl⟩ := h2.form
  have H1 := Lib.hid h1
  have H2 := Lib.hid h2
  have HA := Lib.hid hA
  obtain ⟨n, hn⟩ : ∃ n, l.length = n := ⟨_, rfl⟩
  have hm : m.length = n := by rw [← hA.len]; exact hn
  rw [hn] at hl ⊢
  rw [hm]
  have HN := Lib.hid (And.intro hn hm)
  have HB := Lib.hid (Below.refl w.heap.size w)
  clear h1 h2 hn hm hA
  go_enter Tryd.func50, Tryd.ntmps50
  go_wp2_with fail
  go_loopg [17] n (fun kx s5 wr => ∃ k : Nat, s5 = .int .i64 k ∧ k ≤ n ∧ n - k ≤ kx ∧ Hid (Below w.heap.size w wr))
  case atStart => exact ⟨0, by simp, Nat.zero_le _, by omega, HB⟩
  case round =>
    obtain ⟨k, rfl, hk, hkx, HBr⟩ := hrel
    by_cases hlt : k < n
    · have hkl : k < l.length := by have := HN.out; omega
      have hkm : k < m.length := by have := HN.out; omega
      obtain ⟨g1, o1, cap1, e1, _, hc1⟩ := H1.out.some (by omega)
      obtain ⟨g2, o2, cap2, e2, _, hc2⟩ := H2.out.some (by omega)
      obtain ⟨rfl, -, rfl⟩ := Value.slice.inj e1
      obtain ⟨rfl, -, rfl⟩ := Value.slice.inj e2
      have x1 := hc1 k _ (List.getElem?_eq_getElem hkl) 0 _ rfl
      have x2 := hc2 k _ (List.getElem?_eq_getElem hkm) 0 _ rfl
      have y1 := hc1 k _ (List.getElem?_eq_getElem hkl) 1 _ rfl
      have y2 := hc2 k _ (List.getElem?_eq_getElem hkm) 1 _ rfl
      have hal := HA.out.at_ k _ _ (List.getElem?_eq_getElem hkl) (List.getElem?_eq_getElem hkm)
      rw [Nat.add_zero] at x1 x2
      generalize l[k] = X at *
      generalize m[k] = Z at *
      have HC := Lib.hid (fun W => alike_c X Z hal W)
      obtain ⟨X, Y⟩ := X
      obtain ⟨Z, V⟩ := Z
      dsimp only at x1 x2 y1 y2 HC
      have hB := HBr.out
      have hsz := hB.size
      have x1 := kc hB x1
      have x2 := kc hB x2
      have y1 := kc hB y1
      have y2 := kc hB y2
      have hl1 := klt x1
      have hl2 := klt x2
      have hin : (0 : Int) ≤ (k : Int) ∧ (k : Int) < (n : Int) := by omega
      obtain ⟨q1, q2, q3, q4, q5⟩ := ap0 hl1
      obtain ⟨q6, q7, q8, q9, q10⟩ := ap0 hl2
      clear e1 e2 hc1 hc2 hkl hkm hal
      go_wp2_with fail
      refine (HC.out _).mono ?_
      rintro _ u ⟨rfl, hb⟩
      have HB2 := Lib.hid (show Below w.heap.size w u from kb (by go_grown) hb)
      clear hb
      go_wp2
      go_roundg (n - (k + 1))
      case measure => omega
      case rel => exact ⟨k + 1, by go_num, by omega, by omega, HB2⟩
    · have hge : (n : Int) ≤ (k : Int) := by omega
      go_wp2
      go_ret
      exact ⟨rfl, HBr.out⟩
end Go.Proofs.YtcnejgilmciljaaDoor
