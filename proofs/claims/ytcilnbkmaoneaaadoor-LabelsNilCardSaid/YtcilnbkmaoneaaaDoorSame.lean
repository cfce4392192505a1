/-
  Layer 7, the program: whether two lists of spans, and two policies, are the same.
-/
import Derived.Test.YtcilnbkmaoneaaaDoorPol
import Derived.Deep.DeepCutAuto
set_option linter.unusedSimpArgs false
set_option linter.unusedVariables false
namespace Go.Proofs.YtcilnbkmaoneaaaDoor
open Go.RowKit Go.PlainAid

theorem sp_neq (a b c d e f : Int) (W : World) : (binOp .neq 64 (.agg #[.int .i64 a, .int .i64 b, .int .u8 c]) (.agg #[.int .i64 d, .int .i64 e, .int .u8 f])).run Tryd.prog W = .ok (.bool (!decide ((⟨a, b, c⟩ : Sp) = ⟨d, e, f⟩))) W := by
  by_cases h1 : a = d
  · by_cases h2 : b = e
    · by_cases h3 : c = f
      · subst h1; subst h2; subst h3; simp [go_sem]
      · have n : (c == f) = false := beq_eq_false_iff_ne.2 h3
        simp [go_sem, h1, h2, h3, n]
    · have n : (b == e) = false := beq_eq_false_iff_ne.2 h2
      simp [go_sem, h1, h2, n]
  · have n : (a == d) = false := beq_eq_false_iff_ne.2 h1
    simp [go_sem, h1, n]
theorem drop_eq_step {l m : List Sp} {k : Nat} (h1 : k < l.length) (h2 : k < m.length) : (l.drop k = m.drop k) ↔ (l[k] = m[k] ∧ l.drop (k + 1) = m.drop (k + 1)) := by
  rw [List.drop_eq_getElem_cons h1, List.drop_eq_getElem_cons h2, List.cons.injEq]
set_option maxRecDepth 100000 in
set_option maxHeartbeats 1000000 in
theorem equal_c (l m : List Sp) (hl : l.length ≤ 100000 ∧ m.length ≤ 100000) (v1 v2 : Value) (w : World) (h1 : HoldsS w v1 l) (h2 : HoldsS w v2 m) :
    Calls Tryd.prog 37 #[v1, v2] w fun e w' => e = .returned (.bool (decide (l = m))) ∧ Below w.heap.size w w' := by
  obtain ⟨a1, c1, rfl⟩ := h1.form
  obtain ⟨a2, c2, rfl⟩ := h2.form
  have H1 := Lib.hid h1
  have H2 := Lib.hid h2
  have HL := Lib.hid hl
  obtain ⟨R, hR⟩ : ∃ R, decide (l = m) = R := ⟨_, rfl⟩
  rw [hR]
  have HR := Lib.hid hR
  clear h1 h2 hl hR
  by_cases hn : l.length = m.length
  · rw [← hn] at H2 ⊢
    have e0 : ((l.length : Int) != (l.length : Int)) = false := by simp
    have HN := Lib.hid hn
    obtain ⟨n, hn2⟩ : ∃ n, l.length = n := ⟨_, rfl⟩
    rw [hn2] at e0 H1 H2 HL HN ⊢
    have HN2 := Lib.hid hn2
    clear hn hn2
    go_enter Tryd.func37, Tryd.ntmps37
    go_wp2
    go_loopg [13] n (fun kx s13 wr => ∃ k : Nat, s13 = .int .i64 k ∧ k ≤ n ∧ n - k ≤ kx ∧ Hid (decide (l.drop k = m.drop k) = R) ∧ Below w.heap.size w wr)
    case atStart => exact ⟨0, by go_num, by omega, by omega, Lib.hid HR.out, Below.refl _ _⟩
    case round =>
      obtain ⟨k, rfl, hk, hkx, HK, hB⟩ := hrel
      by_cases hlt : k < n
      · have hn0 : n ≤ 100000 := HL.out.1
        have hin : (0 : Int) ≤ (k : Int) ∧ (k : Int) < (n : Int) := by omega
        have hk1 : k < l.length := by have := HN2.out; omega
        have hk2 : k < m.length := by have := HN2.out; have := HN.out; omega
        have hst := drop_eq_step hk1 hk2
        obtain ⟨g1, o1, d1, e1, _, c3⟩ := H1.out.some (by omega)
        obtain ⟨g2, o2, d2, e2, _, c4⟩ := H2.out.some (by omega)
        obtain ⟨rfl, n1, rfl⟩ := Value.slice.inj e1
        obtain ⟨rfl, n2, rfl⟩ := Value.slice.inj e2
        clear e1 e2 n1 n2
        obtain ⟨x0, x1, x2⟩ := get3 c3 (List.getElem?_eq_getElem hk1)
        obtain ⟨y0, y1, y2⟩ := get3 c4 (List.getElem?_eq_getElem hk2)
        have hkz : HK.out = HK.out := rfl
        have HS := Lib.hid (show (decide (l[k] = m[k]) && decide (l.drop (k + 1) = m.drop (k + 1))) = R from by
          rw [← HK.out, ← Bool.decide_and]; exact decide_eq_decide.2 hst.symm)
        clear c3 c4 hst hkz HK
        generalize l[k] = x at *
        generalize m[k] = y at *
        clear hk1 hk2
        obtain ⟨xf, xt, xb⟩ := x
        obtain ⟨yf, yt, yb⟩ := y
        dsimp only at x0 x1 x2 y0 y1 y2
        have q := sp_neq xf xt xb yf yt yb
        have x0 := kc hB x0
        have x1 := kc hB x1
        have x2 := kc hB x2
        have y0 := kc hB y0
        have y1 := kc hB y1
        have y2 := kc hB y2
        go_wp2_with fail
        refine wp_region_plan (fun w' => w'.cell? ⟨g1, o1 + k * 3, none⟩ = some (.int .i64 xf) ∧ w'.cell? ⟨g1, o1 + k * 3 + 1, none⟩ = some (.int .i64 xt) ∧ w'.cell? ⟨g1, o1 + k * 3 + 2, none⟩ = some (.int .u8 xb) ∧ w'.cell? ⟨g2, o2 + k * 3, none⟩ = some (.int .i64 yf) ∧ w'.cell? ⟨g2, o2 + k * 3 + 1, none⟩ = some (.int .i64 yt) ∧ w'.cell? ⟨g2, o2 + k * 3 + 2, none⟩ = some (.int .u8 yb) ∧ Below w.heap.size w w') (by kernel_rfl) (by kernel_rfl) (by kernel_rfl) ?_ ?_
        · (try dsimp only)
          refine ⟨?_, ?_, ?_, ?_, ?_, ?_, ?_⟩ <;> first | (go_simp; done) | (simp [*]; done) | go_grown
        repeat (first
          | (refine Plan.val (v := ?_) ?_ ?_ ?_; rotate_left; (· rfl); (· (intro W hSw; (try dsimp only at hSw); go_simp; all_goals (first | (with_reducible rfl) | (constructor <;> (with_reducible rfl)) | (rw [if_neg (by omega)]; done) | (rw [if_neg (by omega)]; with_reducible rfl)))); (try simp only [Act.put, List.setIfInBounds_toArray, List.set_cons_zero, List.set_cons_succ]))
          | (refine Plan.no ?_ ?_; (· rfl); (try simp only [Act.put, List.setIfInBounds_toArray, List.set_cons_zero, List.set_cons_succ])))
        refine Plan.done ?_
        intro u1 T
        (try dsimp only at T)
        obtain ⟨hx_0, hx_1, hx_2, hy_0, hy_1, hy_2, hB⟩ := T
        have hsz := hB.size
        have hlx := klt hx_0
        have hly := klt hy_0
        obtain ⟨hnx0, hnx1, hkx1, hnx2, hkx2⟩ := ap0 hlx
        obtain ⟨hny0, hny1, hky1, hny2, hky2⟩ := ap0 hly
        have hbq : (!decide (xf = yf) || (!decide (xt = yt) || !decide (xb = yb))) = !decide ((⟨xf, xt, xb⟩ : Sp) = ⟨yf, yt, yb⟩) := by
          simp only [Sp.mk.injEq, Bool.decide_and, Bool.not_and]
        rw [hbq]
        obtain ⟨B, hB2⟩ : ∃ B, decide ((⟨xf, xt, xb⟩ : Sp) = ⟨yf, yt, yb⟩) = B := ⟨_, rfl⟩
        rw [hB2] at HS ⊢
        clear hbq hB2 q
        cases B
        · have HF := Lib.hid (show R = false from by rw [← HS.out]; rfl)
          go_wp2
          go_ret
          exact ⟨ret_bool HF.out.symm, hB⟩
        · have HF := Lib.hid (show decide (l.drop (k + 1) = m.drop (k + 1)) = R from by rw [← HS.out, Bool.true_and])
          go_wp2
          go_roundg (n - (k + 1))
          case measure => omega
          case rel => exact ⟨k + 1, by go_num, by omega, by omega, HF, hB⟩
      · have HF := Lib.hid (show R = true from by
          rw [← HK.out, List.drop_eq_nil_of_le (by have := HN2.out; omega), List.drop_eq_nil_of_le (by have := HN2.out; have := HN.out; omega)]; simp)
        go_wp2
        go_ret
        exact ⟨ret_bool HF.out.symm, hB⟩
  · have e0 : ((l.length : Int) != (m.length : Int)) = true := by simp [bne]; omega
    have HF := Lib.hid (show R = false from by rw [← HR.out]; exact decide_eq_false (fun h => hn (by rw [h])))
    go_enter Tryd.func37, Tryd.ntmps37
    go_wp2
    go_ret
    exact ⟨ret_bool HF.out.symm, Below.refl _ _⟩
theorem same_ways (p q : Pol) : decide (sortP p = sortP q) = (decide (sortS p.s = sortS q.s) && (decide (sortS p.k = sortS q.k) && (p.d == q.d && p.t == q.t))) := by
  unfold sortP
  rw [Bool.eq_iff_iff]
  simp
set_option maxRecDepth 100000 in
set_option maxHeartbeats 2000000 in
theorem same_c (p q : Pol) (hp : p.s.length ≤ 100000 ∧ p.k.length ≤ 100000) (hq : q.s.length ≤ 100000 ∧ q.k.length ≤ 100000) (v1 v2 : Value) (w : World) (h1 : HoldsP w v1 p) (h2 : HoldsP w v2 q) :
    Calls Tryd.prog 20 #[v1, v2] w fun e w' => e = .returned (.bool (decide (sortP p = sortP q))) ∧ Below w.heap.size w w' := by
  have HS1 := Lib.hid (fun W (hb : Below w.heap.size w W) => sorted_c p hp v1 W (h1.below hb))
  have HS2 := Lib.hid (fun W (hb : Below w.heap.size w W) => sorted_c q hq v2 W (h2.below hb))
  have hw := same_ways p q
  have hz1 : (sortS p.s).length ≤ 100000 ∧ (sortS q.s).length ≤ 100000 := ⟨by rw [sortS_len]; exact hp.1, by rw [sortS_len]; exact hq.1⟩
  have hz2 : (sortS p.k).length ≤ 100000 ∧ (sortS q.k).length ≤ 100000 := ⟨by rw [sortS_len]; exact hp.2, by rw [sortS_len]; exact hq.2⟩
  obtain ⟨R, hR⟩ : ∃ R, decide (sortP p = sortP q) = R := ⟨_, rfl⟩
  rw [hR] at hw ⊢
  have HW := Lib.hid hw
  have HZ := Lib.hid (And.intro hz1 hz2)
  obtain ⟨x1, x2, rfl, h11, h12⟩ := h1
  obtain ⟨y1, y2, rfl, h21, h22⟩ := h2
  unfold AnsP sortP at HS1 HS2
  dsimp only at HS1 HS2
  obtain ⟨ps, pk, pd, pt⟩ := p
  obtain ⟨qs, qk, qd, qt⟩ := q
  dsimp only at HS1 HS2 HW HZ h11 h12 h21 h22 ⊢
  generalize sortS ps = ps' at *
  generalize sortS pk = pk' at *
  generalize sortS qs = qs' at *
  generalize sortS qk = qk' at *
  clear hw hR hz1 hz2 hp hq h11 h12 h21 h22
  go_enter Tryd.func20, Tryd.ntmps20
  go_upto_region 1 with fail
  go_cut [] (fun wx => ∃ a1 a2 b1 b2, wx.cell? ⟨w.heap.size, 0, none⟩ = some a1 ∧ wx.cell? ⟨w.heap.size, 1, none⟩ = some a2 ∧ wx.cell? ⟨w.heap.size, 2, none⟩ = some (.int .i64 pd) ∧ wx.cell? ⟨w.heap.size, 3, none⟩ = some (.int .i64 pt) ∧
    wx.cell? ⟨w.heap.size + 1, 0, none⟩ = some b1 ∧ wx.cell? ⟨w.heap.size + 1, 1, none⟩ = some b2 ∧ wx.cell? ⟨w.heap.size + 1, 2, none⟩ = some (.int .i64 qd) ∧ wx.cell? ⟨w.heap.size + 1, 3, none⟩ = some (.int .i64 qt) ∧
    Hid (HoldsS wx a1 ps' ∧ HoldsS wx a2 pk' ∧ HoldsS wx b1 qs' ∧ HoldsS wx b2 qk') ∧ w.heap.size + 1 < wx.heap.size ∧ Below w.heap.size w wx)
  case first =>
    go_region_with (go_at_call 24; first
      | ((with_reducible refine (HS1.out _ (by go_grown)).mono ?_); rintro _ u1 ⟨a1, a2, rfl, ha1, ha2, hla1, hla2, hb1⟩; obtain ⟨pa1, ca1, rfl⟩ := ha1.form; obtain ⟨pa2, ca2, rfl⟩ := ha2.form; have HA := Lib.hid (And.intro (And.intro ha1 ha2) (And.intro hla1 hla2)); have pu1_0 : u1.cell? ⟨w.heap.size, 0, none⟩ = some (x1) := kc hb1 (by go_simp); have fpu1_0 : u1.frozen? ⟨w.heap.size, 0, none⟩ = false := kfz hb1 (by first | (simp; done) | (simp; omega)) (by go_simp); have pu1_1 : u1.cell? ⟨w.heap.size, 1, none⟩ = some (x2) := kc hb1 (by go_simp); have fpu1_1 : u1.frozen? ⟨w.heap.size, 1, none⟩ = false := kfz hb1 (by first | (simp; done) | (simp; omega)) (by go_simp); have pu1_2 : u1.cell? ⟨w.heap.size, 2, none⟩ = some (.int .i64 pd) := kc hb1 (by go_simp); have fpu1_2 : u1.frozen? ⟨w.heap.size, 2, none⟩ = false := kfz hb1 (by first | (simp; done) | (simp; omega)) (by go_simp); have pu1_3 : u1.cell? ⟨w.heap.size, 3, none⟩ = some (.int .i64 pt) := kc hb1 (by go_simp); have fpu1_3 : u1.frozen? ⟨w.heap.size, 3, none⟩ = false := kfz hb1 (by first | (simp; done) | (simp; omega)) (by go_simp); have qu1_0 : u1.cell? ⟨w.heap.size + 1, 0, none⟩ = some (y1) := kc hb1 (by go_simp); have fqu1_0 : u1.frozen? ⟨w.heap.size + 1, 0, none⟩ = false := kfz hb1 (by first | (simp; done) | (simp; omega)) (by go_simp); have qu1_1 : u1.cell? ⟨w.heap.size + 1, 1, none⟩ = some (y2) := kc hb1 (by go_simp); have fqu1_1 : u1.frozen? ⟨w.heap.size + 1, 1, none⟩ = false := kfz hb1 (by first | (simp; done) | (simp; omega)) (by go_simp); have qu1_2 : u1.cell? ⟨w.heap.size + 1, 2, none⟩ = some (.int .i64 qd) := kc hb1 (by go_simp); have fqu1_2 : u1.frozen? ⟨w.heap.size + 1, 2, none⟩ = false := kfz hb1 (by first | (simp; done) | (simp; omega)) (by go_simp); have qu1_3 : u1.cell? ⟨w.heap.size + 1, 3, none⟩ = some (.int .i64 qt) := kc hb1 (by go_simp); have fqu1_3 : u1.frozen? ⟨w.heap.size + 1, 3, none⟩ = false := kfz hb1 (by first | (simp; done) | (simp; omega)) (by go_simp); have hz1 := hb1.size; simp only [World.size_alloc, World.size_drew] at hz1; have hB1 : Below w.heap.size w u1 := Below.trans (by go_grown) (hb1.mono (by go_size)); clear ha1 ha2 hla1 hla2 hb1)
      | ((with_reducible refine (HS2.out _ (by go_grown)).mono ?_); rintro _ u2 ⟨b1, b2, rfl, hb1, hb2, hlb1, hlb2, hb⟩; obtain ⟨pb1, cb1, rfl⟩ := hb1.form; obtain ⟨pb2, cb2, rfl⟩ := hb2.form; have HBB := Lib.hid (And.intro (And.intro hb1 hb2) (And.intro hlb1 hlb2)); have HB2 := Lib.hid hb; have pu2_0 : u2.cell? ⟨w.heap.size, 0, none⟩ = some (x1) := kc hb pu1_0; have fpu2_0 : u2.frozen? ⟨w.heap.size, 0, none⟩ = false := kfz hb (klt pu1_0) fpu1_0; have pu2_1 : u2.cell? ⟨w.heap.size, 1, none⟩ = some (x2) := kc hb pu1_1; have fpu2_1 : u2.frozen? ⟨w.heap.size, 1, none⟩ = false := kfz hb (klt pu1_1) fpu1_1; have pu2_2 : u2.cell? ⟨w.heap.size, 2, none⟩ = some (.int .i64 pd) := kc hb pu1_2; have fpu2_2 : u2.frozen? ⟨w.heap.size, 2, none⟩ = false := kfz hb (klt pu1_2) fpu1_2; have pu2_3 : u2.cell? ⟨w.heap.size, 3, none⟩ = some (.int .i64 pt) := kc hb pu1_3; have fpu2_3 : u2.frozen? ⟨w.heap.size, 3, none⟩ = false := kfz hb (klt pu1_3) fpu1_3; have qu2_0 : u2.cell? ⟨w.heap.size + 1, 0, none⟩ = some (y1) := kc hb qu1_0; have fqu2_0 : u2.frozen? ⟨w.heap.size + 1, 0, none⟩ = false := kfz hb (klt qu1_0) fqu1_0; have qu2_1 : u2.cell? ⟨w.heap.size + 1, 1, none⟩ = some (y2) := kc hb qu1_1; have fqu2_1 : u2.frozen? ⟨w.heap.size + 1, 1, none⟩ = false := kfz hb (klt qu1_1) fqu1_1; have qu2_2 : u2.cell? ⟨w.heap.size + 1, 2, none⟩ = some (.int .i64 qd) := kc hb qu1_2; have fqu2_2 : u2.frozen? ⟨w.heap.size + 1, 2, none⟩ = false := kfz hb (klt qu1_2) fqu1_2; have qu2_3 : u2.cell? ⟨w.heap.size + 1, 3, none⟩ = some (.int .i64 qt) := kc hb qu1_3; have fqu2_3 : u2.frozen? ⟨w.heap.size + 1, 3, none⟩ = false := kfz hb (klt qu1_3) fqu1_3; have hz2 := hb.size; (try simp only [World.size_alloc, World.size_drew] at hz2); have hB2 : Below w.heap.size w u2 := Below.trans (by go_grown) (hb.mono (by first | go_size | (simp; omega))); clear hb1 hb2 hlb1 hlb2 hb; clear pu1_0 fpu1_0 pu1_1 fpu1_1 pu1_2 fpu1_2 pu1_3 fpu1_3 qu1_0 fqu1_0 qu1_1 fqu1_1 qu1_2 fqu1_2 qu1_3 fqu1_3))
    all_goals
      have A1 := HoldsE.below (HA.out.1.1) HB2.out
      have A2 := HoldsE.below (HA.out.1.2) HB2.out
      have LA1 : ∀ g, Value.ownBlock (.slice pa1 ps'.length ca1) = some g → w.heap.size + 2 ≤ g := fun g h => Nat.le_trans (by simp) (HA.out.2.1 g h)
      have LA2 : ∀ g, Value.ownBlock (.slice pa2 pk'.length ca2) = some g → w.heap.size + 2 ≤ g := fun g h => Nat.le_trans (by simp) (HA.out.2.2 g h)
      have LB1 : ∀ g, Value.ownBlock (.slice pb1 qs'.length cb1) = some g → w.heap.size + 2 ≤ g := fun g h => Nat.le_trans (by first | omega | (simp only [World.size_drew]; omega)) (HBB.out.2.1 g h)
      have LB2 : ∀ g, Value.ownBlock (.slice pb2 qk'.length cb2) = some g → w.heap.size + 2 ≤ g := fun g h => Nat.le_trans (by first | omega | (simp only [World.size_drew]; omega)) (HBB.out.2.2 g h)
      have HH := Lib.hid (And.intro (And.intro (And.intro A1 LA1) (And.intro A2 LA2)) (And.intro (And.intro HBB.out.1.1 LB1) (And.intro HBB.out.1.2 LB2)))
      have hz3 : w.heap.size + 1 < u2.heap.size := by first | omega | (simp at *; omega)
      clear A1 A2 LA1 LA2 LB1 LB2
      go_wp2_with fail
      go_meet
      refine ⟨.slice pa1 ps'.length ca1, .slice pa2 pk'.length ca2, .slice pb1 qs'.length cb1, .slice pb2 qk'.length cb2, by go_simp, by go_simp, by go_simp, by go_simp, by go_simp, by go_simp, by go_simp, by go_simp, Lib.hid ⟨?_, ?_, ?_, ?_⟩, by first | (simp; done) | (simp; omega), by go_grown⟩
      · (repeat (refine holdsE_set (B := w.heap.size + 2) ?_ HH.out.1.1.2 (by simp) _))
        exact HH.out.1.1.1
      · (repeat (refine holdsE_set (B := w.heap.size + 2) ?_ HH.out.1.2.2 (by simp) _))
        exact HH.out.1.2.1
      · (repeat (refine holdsE_set (B := w.heap.size + 2) ?_ HH.out.2.1.2 (by simp) _))
        exact HH.out.2.1.1
      · (repeat (refine holdsE_set (B := w.heap.size + 2) ?_ HH.out.2.2.2 (by simp) _))
        exact HH.out.2.2.1
  case rest =>
    obtain ⟨a1, a2, b1, b2, hp_0, hp_1, hp_2, hp_3, hq_0, hq_1, hq_2, hq_3, HH, hsz0, hB⟩ := hcut
    have HE1 := Lib.hid (fun W (hb : Below wc.heap.size wc W) => equal_c ps' qs' ⟨HZ.out.1.1, HZ.out.1.2⟩ a1 b1 W (HH.out.1.below hb) (HH.out.2.2.1.below hb))
    have HE2 := Lib.hid (fun W (hb : Below wc.heap.size wc W) => equal_c pk' qk' ⟨HZ.out.2.1, HZ.out.2.2⟩ a2 b2 W (HH.out.2.1.below hb) (HH.out.2.2.2.below hb))
    have hw := HW.out
    obtain ⟨E1, hE1⟩ : ∃ E, decide (ps' = qs') = E := ⟨_, rfl⟩
    obtain ⟨E2, hE2⟩ : ∃ E, decide (pk' = qk') = E := ⟨_, rfl⟩
    obtain ⟨E3, hE3⟩ : ∃ E, (pd == qd) = E := ⟨_, rfl⟩
    obtain ⟨E4, hE4⟩ : ∃ E, (pt == qt) = E := ⟨_, rfl⟩
    rw [hE1, hE2, hE3, hE4] at hw
    rw [hE1] at HE1
    rw [hE2] at HE2
    have HF := Lib.hid hw
    clear hw HW hE1 hE2
    have HB := Lib.hid hB
    clear hB
    have hbr : Below wc.heap.size wc wc := Below.refl _ _
    go_wp2_with fail
    ((with_reducible refine (HE1.out _ (by go_grown)).mono ?_); rintro _ u1 ⟨rfl, hb⟩)
    have T : CC u1 w.heap.size 0 1 (a1) (a2) ∧ CC u1 w.heap.size 2 3 (.int .i64 pd) (.int .i64 pt) ∧ CC u1 (w.heap.size + 1) 0 1 (b1) (b2) ∧ CC u1 (w.heap.size + 1) 2 3 (.int .i64 qd) (.int .i64 qt) := by
        refine ⟨⟨?_, ?_⟩, ⟨?_, ?_⟩, ⟨?_, ?_⟩, ⟨?_, ?_⟩⟩ <;> refine kc hb ?_ <;> (go_simp; first | done | rfl)
    have hz := hb.size
    (try simp only [World.size_alloc, World.size_setCell, World.size_drew] at hz)
    have L : w.heap.size < u1.heap.size ∧ w.heap.size + 1 < u1.heap.size := by omega
    have hB' : Below wc.heap.size wc u1 := by
        refine kb ?_ hb
        go_grown
    clear hb hz
    obtain ⟨⟨hp_0, hp_1⟩, ⟨hp_2, hp_3⟩, ⟨hq_0, hq_1⟩, ⟨hq_2, hq_3⟩⟩ := T
    obtain ⟨hlp, hlq⟩ := L
    obtain ⟨hnp0, hnp1, hkp1, hnp2, hkp2⟩ := ap0 hlp
    obtain ⟨hnq0, hkq1⟩ := ap1 hlq
    have hB := hB'; clear hB'
    have hsz := hB.size
    cases E1
    · go_wp2
      go_ret
      exact ⟨ret_bool (by rw [HF.out]; rfl), HB.out.trans (hB.mono HB.out.size)⟩
    · go_wp2_with fail
      ((with_reducible refine (HE2.out _ hB).mono ?_); rintro _ u2 ⟨rfl, hb⟩)
      have T : CC u2 w.heap.size 0 1 (a1) (a2) ∧ CC u2 w.heap.size 2 3 (.int .i64 pd) (.int .i64 pt) ∧ CC u2 (w.heap.size + 1) 0 1 (b1) (b2) ∧ CC u2 (w.heap.size + 1) 2 3 (.int .i64 qd) (.int .i64 qt) := by
          refine ⟨⟨?_, ?_⟩, ⟨?_, ?_⟩, ⟨?_, ?_⟩, ⟨?_, ?_⟩⟩ <;> refine kc hb ?_ <;> (go_simp; first | done | rfl)
      have hz := hb.size
      (try simp only [World.size_alloc, World.size_setCell, World.size_drew] at hz)
      have L : w.heap.size < u2.heap.size ∧ w.heap.size + 1 < u2.heap.size := by omega
      have hB' : Below wc.heap.size wc u2 := by
          refine kb ?_ hb
          go_grown
      clear hp_0 hp_1 hp_2 hp_3 hq_0 hq_1 hq_2 hq_3 hlp hlq hnp0 hnp1 hkp1 hnp2 hkp2 hnq0 hkq1 hB hsz
      clear hb hz
      obtain ⟨⟨hp_0, hp_1⟩, ⟨hp_2, hp_3⟩, ⟨hq_0, hq_1⟩, ⟨hq_2, hq_3⟩⟩ := T
      obtain ⟨hlp, hlq⟩ := L
      obtain ⟨hnp0, hnp1, hkp1, hnp2, hkp2⟩ := ap0 hlp
      obtain ⟨hnq0, hkq1⟩ := ap1 hlq
      have hB := hB'; clear hB'
      have hsz := hB.size
      cases E2
      · go_wp2
        go_ret
        exact ⟨ret_bool (by rw [HF.out]; rfl), HB.out.trans (hB.mono HB.out.size)⟩
      · cases E3
        · go_wp2
          go_ret
          exact ⟨ret_bool (by rw [HF.out]; rfl), HB.out.trans (hB.mono HB.out.size)⟩
        · go_wp2
          go_ret
          exact ⟨ret_bool (by rw [HF.out]; rfl), HB.out.trans (hB.mono HB.out.size)⟩
end Go.Proofs.YtcilnbkmaoneaaaDoor
