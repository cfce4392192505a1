/-
  A policy as the document's answer has it (policy's Is7).
-/
import Derived.Test.YtcilnbkmaoneaaaPlain9
import Derived.Test.YtcilnbkmaoneaaaFew9
set_option linter.unusedSimpArgs false
set_option linter.unusedVariables false
namespace Go.Proofs.Ytcilnbkmaoneaaa
open Go.RowKit Go.PlainAid

/-- The document's policy in memory. -/
def HoldsQ (w : World) (v : Value) (p : Pol) : Prop := ∃ v1 v2, v = .agg #[v1, v2, .int .i64 p.d, .int .i64 p.t] ∧ HoldsD w v1 p.s ∧ HoldsD w v2 p.k
theorem HoldsQ.below {w u : World} {v : Value} {p : Pol} (h : HoldsQ w v p) (hb : Below w.heap.size w u) : HoldsQ u v p := by
  obtain ⟨v1, v2, e, h1, h2⟩ := h
  exact ⟨v1, v2, e, h1.below hb, h2.below hb⟩
/-- A call that answers one slice of the document's spans. -/
def kDl (l : List Sp) (n : Nat) : KdR := .any (.slice none n 0) (fun v => ∃ p c, v = .slice p n c) (fun x w => HoldsD w x.v l ∧ l.length = n ∧ ∀ g, x.v.ownBlock = some g → x.lo ≤ g)
theorem kDl_fine (l : List Sp) (n : Nat) : (kDl l n).Fine :=
  ⟨⟨none, 0, rfl⟩, fun x W w1 h hb => ⟨h.1.below hb, h.2⟩, fun x w h => by obtain ⟨p, c, e⟩ := h.1.form; exact ⟨p, c, by rw [e, h.2.1]⟩⟩
set_option maxRecDepth 100000 in
set_option maxHeartbeats 2000000 in
theorem Plain7f_c (P : Pol) (hl : P.s.length ≤ 1000 ∧ P.k.length ≤ 1000) (hb8 : Bits P) (v : Value) (w : World) (hv : HoldsP w v P) : Calls Try.prog 8 #[v] w fun e w' => ∃ v1 v2, e = .returned (.agg #[v1, v2, .int .i64 P.d, .int .i64 P.t]) ∧ HoldsD w' v1 P.s ∧ HoldsD w' v2 P.k ∧ (∀ g, v1.ownBlock = some g → w.heap.size ≤ g) ∧ (∀ g, v2.ownBlock = some g → w.heap.size ≤ g) ∧ Below w.heap.size w w' := by
  obtain ⟨v1, v2, rfl, h1, h2⟩ := hv
  have HP1 := Lib.hid (fun W (hb : Below w.heap.size w W) => plain7_c P.s hl.1 hb8.1 v1 W (h1.below hb))
  have HP2 := Lib.hid (fun W (hb : Below w.heap.size w W) => plain7_c P.k hl.2 hb8.2 v2 W (h2.below hb))
  obtain ⟨a1, c1, rfl⟩ := h1.form
  obtain ⟨a2, c2, rfl⟩ := h2.form
  obtain ⟨ps, pk, pd, pt⟩ := P
  dsimp only at *
  unfold AnsD at HP1 HP2
  obtain ⟨n1, hn1⟩ : ∃ n, ps.length = n := ⟨_, rfl⟩
  obtain ⟨n2, hn2⟩ : ∃ n, pk.length = n := ⟨_, rfl⟩
  rw [hn1] at HP1 ⊢
  rw [hn2] at HP2 ⊢
  have HNN := Lib.hid (And.intro hn1 hn2)
  clear h1 h2 hn1 hn2 hl hb8
  go_enter Try.func8, Try.ntmps8
  go_wp2_with fail
  refine wp_region_planR 11 (fun W => W.cell? ⟨w.heap.size, 0, none⟩ = some (.slice a1 n1 c1) ∧ W.cell? ⟨w.heap.size, 1, none⟩ = some (.slice a2 n2 c2) ∧ W.cell? ⟨w.heap.size, 2, none⟩ = some (.int .i64 pd) ∧ W.cell? ⟨w.heap.size, 3, none⟩ = some (.int .i64 pt) ∧ Below ((w.alloc (.cells #[.slice a1 n1 c1, .slice a2 n2 c2, .int .i64 pd, .int .i64 pt] 24)).alloc (.cells #[.slice none 0 0, .slice none 0 0, .int .i64 0, .int .i64 0] 35)).heap.size ((w.alloc (.cells #[.slice a1 n1 c1, .slice a2 n2 c2, .int .i64 pd, .int .i64 pt] 24)).alloc (.cells #[.slice none 0 0, .slice none 0 0, .int .i64 0, .int .i64 0] 35)) W)
    [.val (.pointer (some ⟨w.heap.size, 0, none⟩)), .val (.slice a1 n1 c1), kDl ps n1, .val (.pointer (some ⟨w.heap.size, 1, none⟩)), .val (.slice a2 n2 c2), kDl pk n2, .val (.pointer (some ⟨w.heap.size, 2, none⟩)), .val (.int .i64 pd), .val (.pointer (some ⟨w.heap.size, 3, none⟩)), .val (.int .i64 pt),
      .fn [2, 5] (fun l => .agg #[l.getD 0 undef, l.getD 1 undef, .int .i64 pd, .int .i64 pt])]
    (by kernel_rfl) (by kernel_rfl) (by kernel_rfl) (by kernel_rfl) (by kernel_rfl) (fun W w1 h hb => ⟨kc hb h.1, kc hb h.2.1, kc hb h.2.2.1, kc hb h.2.2.2.1, h.2.2.2.2.trans (hb.mono h.2.2.2.2.size)⟩) ?_ ?_ ?_
  · intro k hk
    simp only [List.mem_cons, List.not_mem_nil, or_false] at hk
    rcases hk with rfl | rfl | rfl | rfl | rfl | rfl | rfl | rfl | rfl | rfl | rfl <;> first | exact trivial | exact kDl_fine _ _
  · exact ⟨by go_simp, by go_simp, by go_simp, by go_simp, Below.drew (Below.refl _ _)⟩
  (try simp only [List.append_eq, List.cons_append, List.nil_append, List.toList_toArray, List.take_succ_cons, List.take_zero, List.drop_succ_cons, List.drop_zero])
  (iterate 2 (refine PlanR.val ?_ ?_ ?_; (· rfl); (· (intro W hSw; (try dsimp only at hSw); go_simp; all_goals (first | (with_reducible rfl) | (constructor <;> (with_reducible rfl))))); intro _ _; (try simp only [Act.put, List.setIfInBounds_toArray, List.set_cons_zero, List.set_cons_succ])))
  refine PlanR.any ?_ ?_ ?_
  · rfl
  · intro W hSw _
    (try dsimp only at hSw)
    go_simp
    refine ⟨rfl, (HP1.out W ((((Below.refl _ w).alloc (Nat.le_refl _) _).alloc (by simp) _).trans (hSw.2.2.2.2.mono (by simp only [World.size_alloc]; omega)))).mono ?_⟩
    rintro _ u ⟨v, rfl, hv, hg, hb⟩
    exact ⟨v, rfl, hb, hv, HNN.out.1, fun g h => (hg g h).1⟩
  rintro ⟨_, lo1, hi1⟩ ⟨p1, cp1, rfl⟩
  (try simp only [Act.put, List.setIfInBounds_toArray, List.set_cons_zero, List.set_cons_succ])
  (iterate 2 (refine PlanR.val ?_ ?_ ?_; (· rfl); (· (intro W hSw; (try dsimp only at hSw); go_simp; all_goals (first | (with_reducible rfl) | (constructor <;> (with_reducible rfl))))); intro _ _; (try simp only [Act.put, List.setIfInBounds_toArray, List.set_cons_zero, List.set_cons_succ])))
  refine PlanR.any ?_ ?_ ?_
  · rfl
  · intro W hSw _
    (try dsimp only at hSw)
    go_simp
    refine ⟨rfl, (HP2.out W ((((Below.refl _ w).alloc (Nat.le_refl _) _).alloc (by simp) _).trans (hSw.2.2.2.2.mono (by simp only [World.size_alloc]; omega)))).mono ?_⟩
    rintro _ u ⟨v, rfl, hv, hg, hb⟩
    exact ⟨v, rfl, hb, hv, HNN.out.2, fun g h => (hg g h).1⟩
  rintro ⟨_, lo2, hi2⟩ ⟨p2, cp2, rfl⟩
  (try simp only [Act.put, List.setIfInBounds_toArray, List.set_cons_zero, List.set_cons_succ])
  (iterate 4 (refine PlanR.val ?_ ?_ ?_; (· rfl); (· (intro W hSw; (try dsimp only at hSw); go_simp; all_goals (first | (with_reducible rfl) | (constructor <;> (with_reducible rfl))))); intro _ _; (try simp only [Act.put, List.setIfInBounds_toArray, List.set_cons_zero, List.set_cons_succ])))
  refine PlanR.fn (v := ?_) ?_ ?_ ?_ ?_
  rotate_left 3
  · (intro W hSw; (try dsimp only at hSw); go_simp; all_goals (first | (with_reducible rfl) | (constructor <;> (with_reducible rfl))))
  rotate_left 1
  · rfl
  · rfl
  intro _ _
  (try simp only [Act.put, List.setIfInBounds_toArray, List.set_cons_zero, List.set_cons_succ])
  refine PlanR.done ?_
  intro u G
  have h1 : HoldsD u (.slice p1 n1 cp1) ps ∧ ps.length = n1 ∧ ∀ g, (Value.slice p1 n1 cp1).ownBlock = some g → lo1 ≤ g := (G.each 2 (by decide) rfl).1
  have h2 : HoldsD u (.slice p2 n2 cp2) pk ∧ pk.length = n2 ∧ ∀ g, (Value.slice p2 n2 cp2).ownBlock = some g → lo2 ≤ g := (G.each 5 (by decide) rfl).1
  have b1 : w.heap.size + 1 < lo1 := by have h : _ ≤ lo1 := (G.each 2 (by decide) rfl).2.1; simp only [World.size_alloc] at h; omega
  have b2 : w.heap.size + 1 < lo2 := by have h : _ ≤ lo2 := (G.each 5 (by decide) rfl).2.1; simp only [World.size_alloc] at h; omega
  have hBw := G.s.2.2.2.2
  have hBu : Below w.heap.size w u := (((Below.refl _ w).alloc (Nat.le_refl _) _).alloc (by simp) _).trans (hBw.mono (by simp only [World.size_alloc]; omega))
  have hz_0 : u.cell? ⟨w.heap.size + 1, 0, none⟩ = some (.slice none 0 0) := kc hBw (by go_simp)
  have hz_1 : u.cell? ⟨w.heap.size + 1, 1, none⟩ = some (.slice none 0 0) := kc hBw (by go_simp)
  have hz_2 : u.cell? ⟨w.heap.size + 1, 2, none⟩ = some (.int .i64 0) := kc hBw (by go_simp)
  have hz_3 : u.cell? ⟨w.heap.size + 1, 3, none⟩ = some (.int .i64 0) := kc hBw (by go_simp)
  have fz_0 : u.frozen? ⟨w.heap.size + 1, 0, none⟩ = false := kfz hBw (by simp) (by go_simp)
  have fz_1 : u.frozen? ⟨w.heap.size + 1, 1, none⟩ = false := kfz hBw (by simp) (by go_simp)
  have fz_2 : u.frozen? ⟨w.heap.size + 1, 2, none⟩ = false := kfz hBw (by simp) (by go_simp)
  have fz_3 : u.frozen? ⟨w.heap.size + 1, 3, none⟩ = false := kfz hBw (by simp) (by go_simp)
  have H1 := Lib.hid (show HoldsD u (.slice p1 n1 cp1) ps ∧ ∀ g, (Value.slice p1 n1 cp1).ownBlock = some g → w.heap.size + 2 ≤ g from ⟨h1.1, fun g hg => by have := h1.2.2 g hg; omega⟩)
  have H2 := Lib.hid (show HoldsD u (.slice p2 n2 cp2) pk ∧ ∀ g, (Value.slice p2 n2 cp2).ownBlock = some g → w.heap.size + 2 ≤ g from ⟨h2.1, fun g hg => by have := h2.2.2 g hg; omega⟩)
  have hB := hBu
  have hsz := hB.size
  clear G h1 h2 hBw b1 b2
  (try simp only [List.drop_succ_cons, List.drop_zero])
  refine wpList_plain rfl fun K hK => ?_
  go_simp
  refine hK _ _ ?_
  clear hK K
  go_wp2
  refine bodyPost_ret (v := .agg #[.slice p1 n1 cp1, .slice p2 n2 cp2, .int .i64 pd, .int .i64 pt]) (by simp [results, Try.results8, go_sem, hz_0, hz_1, hz_2, hz_3] <;> first | done | rfl) rfl ⟨_, _, rfl, ?_, ?_, (fun g h => Nat.le_trans (Nat.le_add_right _ 2) (H1.out.2 g h)), (fun g h => Nat.le_trans (Nat.le_add_right _ 2) (H2.out.2 g h)), by go_grown⟩
  · (repeat (refine holdsE_set (B := w.heap.size + 2) ?_ H1.out.2 (by simp) _))
    exact H1.out.1
  · (repeat (refine holdsE_set (B := w.heap.size + 2) ?_ H2.out.2 (by simp) _))
    exact H2.out.1
theorem Plain7_c (P : Pol) (hl : P.s.length ≤ 1000 ∧ P.k.length ≤ 1000) (hb8 : Bits P) (v : Value) (w : World) (hv : HoldsP w v P) : Calls Try.prog 8 #[v] w fun e w' => ∃ v', e = .returned v' ∧ HoldsQ w' v' P ∧ Below w.heap.size w w' := by
  refine (Plain7f_c P hl hb8 v w hv).mono ?_
  rintro _ u ⟨v1, v2, rfl, h1, h2, _, _, hb⟩
  exact ⟨_, rfl, ⟨v1, v2, rfl, h1, h2⟩, hb⟩
end Go.Proofs.Ytcilnbkmaoneaaa
