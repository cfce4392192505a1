/- Layer 7's laws: a policy as -/
import Derived.Test.YtjcmblbnbpikfaaGreatDoorPlain7
import Derived.Test.YtjcmblbnbpikfaaGreatDoorPlace
import Derived.Test.YtjcmblbnbpikfaaGreatDoorSame
set_option linter.unusedSimpArgs false
set_option linter.unusedVariables false
set_option maxRecDepth 100000
namespace Go.Proofs.YtjcmblbnbpikfaaGreatDoor
open Lib (hid)
open List (setIfInBounds_toArray set_cons_zero set_cons_succ append_eq cons_append nil_append toList_toArray take_succ_cons take_zero drop_succ_cons drop_zero)
open Go.RowKit Go.PlainAid

def HoldsQ (w : World) (v : Value) (p : Pol) : Prop := ∃ v1 v2, v = .agg #[v1, v2, .int .i64 p.d, .int .i64 p.t] ∧ HoldsD w v1 p.s ∧ HoldsD w v2 p.k
theorem HoldsQ.below {w u : World} {v : Value} {p : Pol} (h : HoldsQ w v p) (hb : Below w.heap.size w u) : HoldsQ u v p := by
 obtain ⟨v1, v2, e, h1, h2⟩ := h
 exact ⟨v1, v2, e, h1.below hb, h2.below hb⟩
def kDl (l : List Sp) (n : Nat) : KdR := .any (.slice none n 0) (fun v => ∃ p c, v = .slice p n c) (fun x w => HoldsD w x.v l ∧ l.length = n ∧ ∀ g, x.v.ownBlock = some g → x.lo ≤ g)
theorem kDl_fine (l : List Sp) (n : Nat) : (kDl l n).Fine :=
 ⟨⟨none, 0, rfl⟩, fun x W w1 h hb => ⟨h.1.below hb, h.2⟩, fun x w h => by obtain ⟨p, c, e⟩ := h.1.form; exact ⟨p, c, by rw [e, h.2.1]⟩⟩
set_option maxHeartbeats 2000000 in
theorem Plain7f_c (P : Pol) (hl : P.s.length ≤ 1000 ∧ P.k.length ≤ 1000) (hb8 : Bits P) (v : Value) (w : World) (hv : HoldsP w v P) : Calls Tryz.prog 8 #[v] w fun e w' => ∃ v1 v2, e = .returned (.agg #[v1, v2, .int .i64 P.d, .int .i64 P.t]) ∧ HoldsD w' v1 P.s ∧ HoldsD w' v2 P.k ∧ (∀ g, v1.ownBlock = some g → w.heap.size ≤ g) ∧ (∀ g, v2.ownBlock = some g → w.heap.size ≤ g) ∧ Below w.heap.size w w' := by
 obtain ⟨v1, v2, rfl, h1, h2⟩ := hv
 have HP1 := hid (fun W (hb : Below w.heap.size w W) => plain7_c P.s hl.1 hb8.1 v1 W (h1.below hb))
 have HP2 := hid (fun W (hb : Below w.heap.size w W) => plain7_c P.k hl.2 hb8.2 v2 W (h2.below hb))
 obtain ⟨a1, c1, rfl⟩ := h1.form
 obtain ⟨a2, c2, rfl⟩ := h2.form
 obtain ⟨ps, pk, pd, pt⟩ := P
 dsimp only at *
 unfold AnsD at HP1 HP2
 obtain ⟨n1, hn1⟩ : ∃ n, ps.length = n := ⟨_, rfl⟩
 obtain ⟨n2, hn2⟩ : ∃ n, pk.length = n := ⟨_, rfl⟩
 rw [hn1] at HP1 ⊢
 rw [hn2] at HP2 ⊢
 have HNN := hid (And.intro hn1 hn2)
 clear h1 h2 hn1 hn2 hl hb8
 go_enter Tryz.func8, Tryz.ntmps8
 go_wp2_with fail
 refine wp_region_planR 11 (fun W => W.cell? ⟨w.heap.size, 0, none⟩ = some (.slice a1 n1 c1) ∧ W.cell? ⟨w.heap.size, 1, none⟩ = some (.slice a2 n2 c2) ∧ W.cell? ⟨w.heap.size, 2, none⟩ = some (.int .i64 pd) ∧ W.cell? ⟨w.heap.size, 3, none⟩ = some (.int .i64 pt) ∧ Below ((w.alloc (.cells #[.slice a1 n1 c1, .slice a2 n2 c2, .int .i64 pd, .int .i64 pt] 24)).alloc (.cells #[.slice none 0 0, .slice none 0 0, .int .i64 0, .int .i64 0] 29)).heap.size ((w.alloc (.cells #[.slice a1 n1 c1, .slice a2 n2 c2, .int .i64 pd, .int .i64 pt] 24)).alloc (.cells #[.slice none 0 0, .slice none 0 0, .int .i64 0, .int .i64 0] 29)) W)
  [.val (.pointer (some ⟨w.heap.size, 0, none⟩)), .val (.slice a1 n1 c1), kDl ps n1, .val (.pointer (some ⟨w.heap.size, 1, none⟩)), .val (.slice a2 n2 c2), kDl pk n2, .val (.pointer (some ⟨w.heap.size, 2, none⟩)), .val (.int .i64 pd), .val (.pointer (some ⟨w.heap.size, 3, none⟩)), .val (.int .i64 pt),
   .fn [2, 5] (fun l => .agg #[l.getD 0 undef, l.getD 1 undef, .int .i64 pd, .int .i64 pt])]
  (by kernel_rfl) (by kernel_rfl) (by kernel_rfl) (by kernel_rfl) (by kernel_rfl) (fun W w1 h hb => ⟨kc hb h.1, kc hb h.2.1, kc hb h.2.2.1, kc hb h.2.2.2.1, h.2.2.2.2.trans (hb.mono h.2.2.2.2.size)⟩) ?_ ?_ ?_
 ·intro k hk
  simp only [List.mem_cons, List.not_mem_nil, or_false] at hk
  rcases hk with rfl | rfl | rfl | rfl | rfl | rfl | rfl | rfl | rfl | rfl | rfl <;> first | exact trivial | exact kDl_fine _ _
 ·exact ⟨by go_simp, by go_simp, by go_simp, by go_simp, Below.drew (Below.refl _ _)⟩
 (try simp only [append_eq, cons_append, nil_append, toList_toArray, take_succ_cons, take_zero, drop_succ_cons, drop_zero])
 (iterate 2 (refine PlanR.val ?_ ?_ ?_; (· rfl); (· (intro W hSw; (try dsimp only at hSw); go_simp; all_goals (first | (with_reducible rfl) | (constructor <;> (with_reducible rfl))))); intro _ _; (try simp only [Act.put, setIfInBounds_toArray, set_cons_zero, set_cons_succ])))
 refine PlanR.any ?_ ?_ ?_
 ·rfl
 ·intro W hSw _
  (try dsimp only at hSw)
  go_simp
  refine ⟨rfl, (HP1.out W ((((Below.refl _ w).alloc (Nat.le_refl _) _).alloc (by simp) _).trans (hSw.2.2.2.2.mono (by simp only [World.size_alloc]; omega)))).mono ?_⟩
  rintro _ u ⟨v, rfl, hv, hg, hb⟩
  exact ⟨v, rfl, hb, hv, HNN.out.1, fun g h => (hg g h).1⟩
 rintro ⟨_, lo1, hi1⟩ ⟨p1, cp1, rfl⟩
 (try simp only [Act.put, setIfInBounds_toArray, set_cons_zero, set_cons_succ])
 (iterate 2 (refine PlanR.val ?_ ?_ ?_; (· rfl); (· (intro W hSw; (try dsimp only at hSw); go_simp; all_goals (first | (with_reducible rfl) | (constructor <;> (with_reducible rfl))))); intro _ _; (try simp only [Act.put, setIfInBounds_toArray, set_cons_zero, set_cons_succ])))
 refine PlanR.any ?_ ?_ ?_
 ·rfl
 ·intro W hSw _
  (try dsimp only at hSw)
  go_simp
  refine ⟨rfl, (HP2.out W ((((Below.refl _ w).alloc (Nat.le_refl _) _).alloc (by simp) _).trans (hSw.2.2.2.2.mono (by simp only [World.size_alloc]; omega)))).mono ?_⟩
  rintro _ u ⟨v, rfl, hv, hg, hb⟩
  exact ⟨v, rfl, hb, hv, HNN.out.2, fun g h => (hg g h).1⟩
 rintro ⟨_, lo2, hi2⟩ ⟨p2, cp2, rfl⟩
 (try simp only [Act.put, setIfInBounds_toArray, set_cons_zero, set_cons_succ])
 (iterate 4 (refine PlanR.val ?_ ?_ ?_; (· rfl); (· (intro W hSw; (try dsimp only at hSw); go_simp; all_goals (first | (with_reducible rfl) | (constructor <;> (with_reducible rfl))))); intro _ _; (try simp only [Act.put, setIfInBounds_toArray, set_cons_zero, set_cons_succ])))
 refine PlanR.fn (v := ?_) ?_ ?_ ?_ ?_
 rotate_left 3
 ·(intro W hSw; (try dsimp only at hSw); go_simp; all_goals (first | (with_reducible rfl) | (constructor <;> (with_reducible rfl))))
 rotate_left 1
 ·rfl
 ·rfl
 intro _ _
 (try simp only [Act.put, setIfInBounds_toArray, set_cons_zero, set_cons_succ])
 refine PlanR.done ?_
 intro u G
 have h1 : HoldsD u (.slice p1 n1 cp1) ps ∧ ps.length = n1 ∧ ∀ g, (Value.slice p1 n1 cp1).ownBlock = some g → lo1 ≤ g := (G.each 2 (by decide) rfl).1
 have h2 : HoldsD u (.slice p2 n2 cp2) pk ∧ pk.length = n2 ∧ ∀ g, (Value.slice p2 n2 cp2).ownBlock = some g → lo2 ≤ g := (G.each 5 (by decide) rfl).1
 have b1 : w.heap.size + 1 < lo1 := by have h : _ ≤ lo1 := (G.each 2 (by decide) rfl).2.1; simp only [World.size_alloc] at h; omega
 have b2 : w.heap.size + 1 < lo2 := by have h : _ ≤ lo2 := (G.each 5 (by decide) rfl).2.1; simp only [World.size_alloc] at h; omega
 have hBw := G.s.2.2.2.2
 have hBu : Below w.heap.size w u := (((Below.refl _ w).alloc (Nat.le_refl _) _).alloc (by simp) _).trans (hBw.mono (by simp only [World.size_alloc]; omega))
 have hz_0 : u.cell? ⟨w.heap.size + 1, 0, none⟩ = some (.slice none 0 0) := kc hBw (by go_simp)
 have hz_1 : u.cell? ⟨w.heap.size + 1, 1, none⟩ = some (.slice none 0 0) := kc hBw (by go_simp)
 have hz_2 : u.cell? ⟨w.heap.size + 1, 2, none⟩ = some (.int .i64 0) := kc hBw (by go_simp)
 have hz_3 : u.cell? ⟨w.heap.size + 1, 3, none⟩ = some (.int .i64 0) := kc hBw (by go_simp)
 have fz_0 : u.frozen? ⟨w.heap.size + 1, 0, none⟩ = false := kfz hBw (by simp) (by go_simp)
 have fz_1 : u.frozen? ⟨w.heap.size + 1, 1, none⟩ = false := kfz hBw (by simp) (by go_simp)
 have fz_2 : u.frozen? ⟨w.heap.size + 1, 2, none⟩ = false := kfz hBw (by simp) (by go_simp)
 have fz_3 : u.frozen? ⟨w.heap.size + 1, 3, none⟩ = false := kfz hBw (by simp) (by go_simp)
 have H1 := hid (show HoldsD u (.slice p1 n1 cp1) ps ∧ ∀ g, (Value.slice p1 n1 cp1).ownBlock = some g → w.heap.size + 2 ≤ g from ⟨h1.1, fun g hg => by have := h1.2.2 g hg; omega⟩)
 have H2 := hid (show HoldsD u (.slice p2 n2 cp2) pk ∧ ∀ g, (Value.slice p2 n2 cp2).ownBlock = some g → w.heap.size + 2 ≤ g from ⟨h2.1, fun g hg => by have := h2.2.2 g hg; omega⟩)
 have hB := hBu
 have hsz := hB.size
 clear G h1 h2 hBw b1 b2
 (try simp only [List.drop_succ_cons, List.drop_zero])
 refine wpList_plain rfl fun K hK => ?_
 go_simp
 refine hK _ _ ?_
 clear hK K
 go_wp2
 refine bodyPost_ret (v := .agg #[.slice p1 n1 cp1, .slice p2 n2 cp2, .int .i64 pd, .int .i64 pt]) (by simp [results, Tryz.results8, go_sem, hz_0, hz_1, hz_2, hz_3] <;> first | done | rfl) rfl ⟨_, _, rfl, ?_, ?_, (fun g h => Nat.le_trans (Nat.le_add_right _ 2) (H1.out.2 g h)), (fun g h => Nat.le_trans (Nat.le_add_right _ 2) (H2.out.2 g h)), by go_grown⟩
 ·(repeat (refine holdsE_set (B := w.heap.size + 2) ?_ H1.out.2 (by simp) _))
  exact H1.out.1
 ·(repeat (refine holdsE_set (B := w.heap.size + 2) ?_ H2.out.2 (by simp) _))
  exact H2.out.1
theorem Plain7_c (P : Pol) (hl : P.s.length ≤ 1000 ∧ P.k.length ≤ 1000) (hb8 : Bits P) (v : Value) (w : World) (hv : HoldsP w v P) : Calls Tryz.prog 8 #[v] w fun e w' => ∃ v', e = .returned v' ∧ HoldsQ w' v' P ∧ Below w.heap.size w w' := by
 refine (Plain7f_c P hl hb8 v w hv).mono ?_
 rintro _ u ⟨v1, v2, rfl, h1, h2, _, _, hb⟩
 exact ⟨_, rfl, ⟨v1, v2, rfl, h1, h2⟩, hb⟩
theorem pl_neq (a b c d e f : Int) (W : World) : (binOp .neq 53 (.agg #[.int .i64 a, .int .i64 b, .int .i64 c]) (.agg #[.int .i64 d, .int .i64 e, .int .i64 f])).run Tryz.prog W = .ok (.bool (!decide ((⟨a, b, c⟩ : Sp) = ⟨d, e, f⟩))) W := by
 by_cases h1 : a = d
 ·by_cases h2 : b = e
  ·by_cases h3 : c = f
   ·subst h1; subst h2; subst h3; simp [go_sem]
   ·have n : (c == f) = false := beq_eq_false_iff_ne.2 h3
    simp [go_sem, h1, h2, h3, n]
  ·have n : (b == e) = false := beq_eq_false_iff_ne.2 h2
   simp [go_sem, h1, h2, n]
 ·have n : (a == d) = false := beq_eq_false_iff_ne.2 h1
  simp [go_sem, h1, n]
set_option maxHeartbeats 1000000 in
theorem spans_c (l m : List Sp) (hl : l.length ≤ 100000 ∧ m.length ≤ 100000) (v1 v2 : Value) (w : World) (h1 : HoldsD w v1 l) (h2 : HoldsD w v2 m) :
  Calls Tryz.prog 14 #[v1, v2] w fun e w' => e = .returned (.bool (decide (l = m))) ∧ Below w.heap.size w w' := by
 obtain ⟨a1, c1, rfl⟩ := h1.form
 obtain ⟨a2, c2, rfl⟩ := h2.form
 have H1 := hid h1
 have H2 := hid h2
 have HL := hid hl
 obtain ⟨R, hR⟩ : ∃ R, decide (l = m) = R := ⟨_, rfl⟩
 rw [hR]
 have HR := hid hR
 clear h1 h2 hl hR
 by_cases hn : l.length = m.length
 ·rw [← hn] at H2 ⊢
  have e0 : ((l.length : Int) != (l.length : Int)) = false := by simp
  have HN := hid hn
  obtain ⟨n, hn2⟩ : ∃ n, l.length = n := ⟨_, rfl⟩
  rw [hn2] at e0 H1 H2 HL HN ⊢
  have HN2 := hid hn2
  clear hn hn2
  go_enter Tryz.func14, Tryz.ntmps14
  go_wp2
  go_loopg [5] n (fun kx s5 wr => ∃ k : Nat, s5 = .int .i64 k ∧ k ≤ n ∧ n - k ≤ kx ∧ Hid (decide (l.drop k = m.drop k) = R) ∧ Below w.heap.size w wr)
  case atStart => exact ⟨0, by go_num, by omega, by omega, hid HR.out, Below.refl _ _⟩
  case round =>
   obtain ⟨k, rfl, hk, hkx, HK, hB⟩ := hrel
   by_cases hlt : k < n
   ·have hn0 : n ≤ 100000 := HL.out.1
    have hin : (0 : Int) ≤ (k : Int) ∧ (k : Int) < (n : Int) := by omega
    have hk1 : k < l.length := by have := HN2.out; omega
    have hk2 : k < m.length := by have := HN2.out; have := HN.out; omega
    have hst := drop_eq_step hk1 hk2
    obtain ⟨g1, o1, d1, e1, _, c3⟩ := H1.out.some (by omega)
    obtain ⟨g2, o2, d2, e2, _, c4⟩ := H2.out.some (by omega)
    obtain ⟨rfl, n1, rfl⟩ := Value.slice.inj e1
    obtain ⟨rfl, n2, rfl⟩ := Value.slice.inj e2
    clear e1 e2 n1 n2
    obtain ⟨x0, x1, x2⟩ := get3d c3 (List.getElem?_eq_getElem hk1)
    obtain ⟨y0, y1, y2⟩ := get3d c4 (List.getElem?_eq_getElem hk2)
    have hkz : HK.out = HK.out := rfl
    have HS := hid (show (decide (l[k] = m[k]) && decide (l.drop (k + 1) = m.drop (k + 1))) = R from by
     rw [← HK.out, ← Bool.decide_and]; exact decide_eq_decide.2 hst.symm)
    clear c3 c4 hst hkz HK
    generalize l[k] = x at *
    generalize m[k] = y at *
    clear hk1 hk2
    obtain ⟨xf, xt, xb⟩ := x
    obtain ⟨yf, yt, yb⟩ := y
    dsimp only at x0 x1 x2 y0 y1 y2
    have q := pl_neq xf xt xb yf yt yb
    have x0 := kc hB x0
    have x1 := kc hB x1
    have x2 := kc hB x2
    have y0 := kc hB y0
    have y1 := kc hB y1
    have y2 := kc hB y2
    go_wp2_with fail
    refine wp_region_plan (fun w' => w'.cell? ⟨g1, o1 + k * 3, none⟩ = some (.int .i64 xf) ∧ w'.cell? ⟨g1, o1 + k * 3 + 1, none⟩ = some (.int .i64 xt) ∧ w'.cell? ⟨g1, o1 + k * 3 + 2, none⟩ = some (.int .i64 xb) ∧ w'.cell? ⟨g2, o2 + k * 3, none⟩ = some (.int .i64 yf) ∧ w'.cell? ⟨g2, o2 + k * 3 + 1, none⟩ = some (.int .i64 yt) ∧ w'.cell? ⟨g2, o2 + k * 3 + 2, none⟩ = some (.int .i64 yb) ∧ Below w.heap.size w w') (by kernel_rfl) (by kernel_rfl) (by kernel_rfl) ?_ ?_
    ·(try dsimp only)
     refine ⟨?_, ?_, ?_, ?_, ?_, ?_, ?_⟩ <;> first | (go_simp; done) | (simp [*]; done) | go_grown
    repeat (first
     | (refine Plan.val (v := ?_) ?_ ?_ ?_; rotate_left; (· rfl); (· (intro W hSw; (try dsimp only at hSw); go_simp; all_goals (first | (with_reducible rfl) | (constructor <;> (with_reducible rfl)) | (rw [if_neg (by omega)]; done) | (rw [if_neg (by omega)]; with_reducible rfl)))); (try simp only [Act.put, setIfInBounds_toArray, set_cons_zero, set_cons_succ]))
     | (refine Plan.no ?_ ?_; (· rfl); (try simp only [Act.put, setIfInBounds_toArray, set_cons_zero, set_cons_succ])))
    refine Plan.done ?_
    intro u1 T
    (try dsimp only at T)
    obtain ⟨hx_0, hx_1, hx_2, hy_0, hy_1, hy_2, hB⟩ := T
    have hsz := hB.size
    have hlx := klt hx_0
    have hly := klt hy_0
    obtain ⟨hnx0, hnx1, hkx1, hnx2, hkx2⟩ := ap0 hlx
    obtain ⟨hny0, hny1, hky1, hny2, hky2⟩ := ap0 hly
    have hbq : (!decide (xf = yf) || (!decide (xt = yt) || !decide (xb = yb))) = !decide ((⟨xf, xt, xb⟩ : Sp) = ⟨yf, yt, yb⟩) := by
     simp only [Sp.mk.injEq, Bool.decide_and, Bool.not_and]
    rw [hbq]
    obtain ⟨B, hB2⟩ : ∃ B, decide ((⟨xf, xt, xb⟩ : Sp) = ⟨yf, yt, yb⟩) = B := ⟨_, rfl⟩
    rw [hB2] at HS ⊢
    clear hbq hB2 q
    cases B
    ·have HF := hid (show R = false from by rw [← HS.out]; rfl)
     go_wp2
     go_ret
     exact ⟨ret_bool HF.out.symm, hB⟩
    ·have HF := hid (show decide (l.drop (k + 1) = m.drop (k + 1)) = R from by rw [← HS.out, Bool.true_and])
     go_wp2
     go_roundg (n - (k + 1))
     case measure => omega
     case rel => exact ⟨k + 1, by go_num, by omega, by omega, HF, hB⟩
   ·have HF := hid (show R = true from by
     rw [← HK.out, List.drop_eq_nil_of_le (by have := HN2.out; omega), List.drop_eq_nil_of_le (by have := HN2.out; have := HN.out; omega)]; simp)
    go_wp2
    go_ret
    exact ⟨ret_bool HF.out.symm, hB⟩
 ·have e0 : ((l.length : Int) != (m.length : Int)) = true := by simp [bne]; omega
  have HF := hid (show R = false from by rw [← HR.out]; exact decide_eq_false (fun h => hn (by rw [h])))
  go_enter Tryz.func14, Tryz.ntmps14
  go_wp2
  go_ret
  exact ⟨ret_bool HF.out.symm, Below.refl _ _⟩
theorem spans_true (l : List Sp) (hl : l.length ≤ 100000) (v1 v2 : Value) (w : World) (h1 : HoldsD w v1 l) (h2 : HoldsD w v2 l) :
  Calls Tryz.prog 14 #[v1, v2] w fun e w' => e = .returned (.bool true) ∧ Below w.heap.size w w' := by
 have h := spans_c l l ⟨hl, hl⟩ v1 v2 w h1 h2
 rw [decide_eq_true rfl] at h
 exact h
set_option maxHeartbeats 2000000 in
theorem is_c (P : Pol) (hl : P.s.length ≤ 1000 ∧ P.k.length ≤ 1000) (hb8 : Bits P) (v q : Value) (w : World) (hv : HoldsP w v P) (hq : HoldsQ w q P) : Calls Tryz.prog 15 #[v, q] w fun e w' => e = .returned (.bool true) ∧ Below w.heap.size w w' := by
 have HPl := hid (fun W (hb : Below w.heap.size w W) => Plain7_c P hl hb8 v W (hv.below hb))
 have HS1 := hid (fun v1 v2 W h1 h2 => spans_true P.s (by omega) v1 v2 W h1 h2)
 have HS2 := hid (fun v1 v2 W h1 h2 => spans_true P.k (by omega) v1 v2 W h1 h2)
 obtain ⟨v1, v2, rfl, h1, h2⟩ := hv
 obtain ⟨a1, c1, rfl⟩ := h1.form
 obtain ⟨a2, c2, rfl⟩ := h2.form
 obtain ⟨v3, v4, rfl, h3, h4⟩ := hq
 obtain ⟨a3, c3, rfl⟩ := h3.form
 obtain ⟨a4, c4, rfl⟩ := h4.form
 obtain ⟨ps, pk, pd, pt⟩ := P
 dsimp only at *
 have HQ := hid (fun W (hb : Below w.heap.size w W) => And.intro (h3.below hb) (h4.below hb))
 obtain ⟨n1, hn1⟩ : ∃ n, ps.length = n := ⟨_, rfl⟩
 obtain ⟨n2, hn2⟩ : ∃ n, pk.length = n := ⟨_, rfl⟩
 rw [hn1, hn2] at HPl HQ ⊢
 have HNN := hid (And.intro hn1 hn2)
 clear h1 h2 h3 h4 hn1 hn2 hl hb8
 go_enter Tryz.func15, Tryz.ntmps15
 go_wp2_with fail
 ((with_reducible refine (HPl.out _ (by go_grown)).mono ?_); rintro _ u1 ⟨_, rfl, ⟨v5, v6, rfl, h5, h6⟩, hb⟩)
 have hs_u1 := hid hb
 have T : CC u1 w.heap.size 0 1 (.slice a1 n1 c1) (.slice a2 n2 c2) ∧ CC u1 w.heap.size 2 3 (.int .i64 pd) (.int .i64 pt) ∧ CC u1 (w.heap.size + 1) 0 1 (.slice a3 n1 c3) (.slice a4 n2 c4) ∧ CC u1 (w.heap.size + 1) 2 3 (.int .i64 pd) (.int .i64 pt) := by
   refine ⟨⟨?_, ?_⟩, ⟨?_, ?_⟩, ⟨?_, ?_⟩, ⟨?_, ?_⟩⟩ <;> refine kc hb ?_ <;> (go_simp; first | done | rfl)
 have hz := hb.size
 (try simp only [szA] at hz)
 have L : w.heap.size < u1.heap.size ∧ w.heap.size + 1 < u1.heap.size := by omega
 have hB' : Below w.heap.size w u1 := by
   refine kb ?_ hb
   go_grown
 clear hb hz
 obtain ⟨⟨hp_0, hp_1⟩, ⟨hp_2, hp_3⟩, ⟨hq_0, hq_1⟩, ⟨hq_2, hq_3⟩⟩ := T
 obtain ⟨hlp, hlq⟩ := L
 obtain ⟨hnp0, hnp1, hkp1, hnp2, hkp2⟩ := ap0 hlp
 obtain ⟨hnq0, hkq1⟩ := ap1 hlq
 have hB := hB'; clear hB'
 have hsz := hB.size
 obtain ⟨a5, c5, rfl⟩ := h5.form
 obtain ⟨a6, c6, rfl⟩ := h6.form
 dsimp only at h5 h6
 rw [HNN.out.1] at h5 ⊢
 rw [HNN.out.2] at h6 ⊢
 have HQ1 := hid (fun W (hb : Below u1.heap.size u1 W) => HQ.out W (hB.trans (hb.mono hB.size)))
 have HR1 := hid (fun W (hb : Below u1.heap.size u1 W) => And.intro (h5.below hb) (h6.below hb))
 have HB0 := hid hB
 have hyy : Below u1.heap.size u1 u1 := Below.refl _ _
 clear h5 h6
 go_wp2_with fail
 ((with_reducible refine (HS1.out _ _ _ (HR1.out _ (by go_grown)).1 (HQ1.out _ (by go_grown)).1).mono ?_); rintro _ u2 ⟨rfl, hb⟩)
 have T : CC u2 w.heap.size 0 1 (.slice a1 n1 c1) (.slice a2 n2 c2) ∧ CC u2 w.heap.size 2 3 (.int .i64 pd) (.int .i64 pt) ∧ CC u2 (w.heap.size + 1) 0 1 (.slice a3 n1 c3) (.slice a4 n2 c4) ∧ CC u2 (w.heap.size + 1) 2 3 (.int .i64 pd) (.int .i64 pt) ∧ CC u2 u1.heap.size 0 1 (.slice a5 n1 c5) (.slice a6 n2 c6) ∧ CC u2 u1.heap.size 2 3 (.int .i64 pd) (.int .i64 pt) := by
   refine ⟨⟨?_, ?_⟩, ⟨?_, ?_⟩, ⟨?_, ?_⟩, ⟨?_, ?_⟩, ⟨?_, ?_⟩, ⟨?_, ?_⟩⟩ <;> refine kc hb ?_ <;> (go_simp; first | done | rfl)
 have hz := hb.size
 (try simp only [szA] at hz)
 have L : w.heap.size < u2.heap.size ∧ w.heap.size + 1 < u2.heap.size ∧ u1.heap.size < u2.heap.size := by omega
 have hB' : Below u1.heap.size u1 u2 := by
   refine kb ?_ hb
   go_grown
 clear hp_0 hp_1 hp_2 hp_3 hq_0 hq_1 hq_2 hq_3 hlp hlq hnp0 hnp1 hkp1 hnp2 hkp2 hnq0 hkq1 hB hsz
 clear hb hz
 obtain ⟨⟨hp_0, hp_1⟩, ⟨hp_2, hp_3⟩, ⟨hq_0, hq_1⟩, ⟨hq_2, hq_3⟩, ⟨hr_0, hr_1⟩, ⟨hr_2, hr_3⟩⟩ := T
 obtain ⟨hlp, hlq, hlr⟩ := L
 obtain ⟨hnp0, hnp1, hkp1, hnp2, hkp2⟩ := ap0 hlp
 obtain ⟨hnq0, hkq1⟩ := ap1 hlq
 obtain ⟨hnr0, hnr1, hkr1, hnr2, hkr2⟩ := ap0 hlr
 have hB := hB'; clear hB'
 have hsz := hB.size
 go_wp2_with fail
 ((with_reducible refine (HS2.out _ _ _ (HR1.out _ (by go_grown)).2 (HQ1.out _ (by go_grown)).2).mono ?_); rintro _ u3 ⟨rfl, hb⟩)
 have T : CC u3 w.heap.size 0 1 (.slice a1 n1 c1) (.slice a2 n2 c2) ∧ CC u3 w.heap.size 2 3 (.int .i64 pd) (.int .i64 pt) ∧ CC u3 (w.heap.size + 1) 0 1 (.slice a3 n1 c3) (.slice a4 n2 c4) ∧ CC u3 (w.heap.size + 1) 2 3 (.int .i64 pd) (.int .i64 pt) ∧ CC u3 u1.heap.size 0 1 (.slice a5 n1 c5) (.slice a6 n2 c6) ∧ CC u3 u1.heap.size 2 3 (.int .i64 pd) (.int .i64 pt) := by
   refine ⟨⟨?_, ?_⟩, ⟨?_, ?_⟩, ⟨?_, ?_⟩, ⟨?_, ?_⟩, ⟨?_, ?_⟩, ⟨?_, ?_⟩⟩ <;> refine kc hb ?_ <;> (go_simp; first | done | rfl)
 have hz := hb.size
 (try simp only [szA] at hz)
 have L : w.heap.size < u3.heap.size ∧ w.heap.size + 1 < u3.heap.size ∧ u1.heap.size < u3.heap.size := by omega
 have hB' : Below u1.heap.size u1 u3 := by
   refine kb ?_ hb
   go_grown
 clear hp_0 hp_1 hp_2 hp_3 hq_0 hq_1 hq_2 hq_3 hr_0 hr_1 hr_2 hr_3 hlp hlq hlr hnp0 hnp1 hkp1 hnp2 hkp2 hnq0 hkq1 hnr0 hnr1 hkr1 hnr2 hkr2 hB hsz
 clear hb hz
 obtain ⟨⟨hp_0, hp_1⟩, ⟨hp_2, hp_3⟩, ⟨hq_0, hq_1⟩, ⟨hq_2, hq_3⟩, ⟨hr_0, hr_1⟩, ⟨hr_2, hr_3⟩⟩ := T
 obtain ⟨hlp, hlq, hlr⟩ := L
 obtain ⟨hnp0, hnp1, hkp1, hnp2, hkp2⟩ := ap0 hlp
 obtain ⟨hnq0, hkq1⟩ := ap1 hlq
 obtain ⟨hnr0, hnr1, hkr1, hnr2, hkr2⟩ := ap0 hlr
 have hB := hB'; clear hB'
 have hsz := hB.size
 go_wp2
 go_ret
 exact ⟨rfl, HB0.out.trans (hB.mono HB0.out.size)⟩
end Go.Proofs.YtjcmblbnbpikfaaGreatDoor
