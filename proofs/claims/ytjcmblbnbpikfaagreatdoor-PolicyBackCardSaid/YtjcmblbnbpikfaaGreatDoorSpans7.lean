/-
  Layer 7's laws: whether two lists of the document's spans are one.
-/
import Derived.Test.YtjcmblbnbpikfaaGreatDoorIs7
import Derived.Test.YtjcmblbnbpikfaaGreatDoorSame
set_option linter.unusedSimpArgs false
set_option linter.unusedVariables false
namespace Go.Proofs.YtjcmblbnbpikfaaGreatDoor
open Go.RowKit Go.PlainAid

theorem pl_neq (a b c d e f : Int) (W : World) : (binOp .neq 53 (.agg #[.int .i64 a, .int .i64 b, .int .i64 c]) (.agg #[.int .i64 d, .int .i64 e, .int .i64 f])).run Tryz.prog W = .ok (.bool (!decide ((⟨a, b, c⟩ : Sp) = ⟨d, e, f⟩))) W := by
  by_cases h1 : a = d
  · by_cases h2 : b = e
    · by_cases h3 : c = f
      · subst h1; subst h2; subst h3; simp [go_sem]
      · have n : (c == f) = false := beq_eq_false_iff_ne.2 h3
        simp [go_sem, h1, h2, h3, n]
    · have n : (b == e) = false := beq_eq_false_iff_ne.2 h2
      simp [go_sem, h1, h2, n]
  · have n : (a == d) = false := beq_eq_false_iff_ne.2 h1
    simp [go_sem, h1, n]
set_option maxRecDepth 100000 in
set_option maxHeartbeats 1000000 in
theorem spans_c (l m : List Sp) (hl : l.length ≤ 100000 ∧ m.length ≤ 100000) (v1 v2 : Value) (w : World) (h1 : HoldsD w v1 l) (h2 : HoldsD w v2 m) :
    Calls Tryz.prog 14 #[v1, v2] w fun e w' => e = .returned (.bool (decide (l = m))) ∧ Below w.heap.size w w' := by
  obtain ⟨a1, c1, rfl⟩ := h1.form
  obtain ⟨a2, c2, rfl⟩ := h2.form
  have H1 := Lib.hid h1
  have H2 := Lib.hid h2
  have HL := Lib.hid hl
  obtain ⟨R, hR⟩ : ∃ R, decide (l = m) = R := ⟨_, rfl⟩
  rw [hR]
  have HR := Lib.hid hR
  clear h1 h2 hl hR
  by_cases hn : l.length = m.length
  · rw [← hn] at H2 ⊢
    have e0 : ((l.length : Int) != (l.length : Int)) = false := by simp
    have HN := Lib.hid hn
    obtain ⟨n, hn2⟩ : ∃ n, l.length = n := ⟨_, rfl⟩
    rw [hn2] at e0 H1 H2 HL HN ⊢
    have HN2 := Lib.hid hn2
    clear hn hn2
    go_enter Tryz.func14, Tryz.ntmps14
    go_wp2
    go_loopg [5] n (fun kx s5 wr => ∃ k : Nat, s5 = .int .i64 k ∧ k ≤ n ∧ n - k ≤ kx ∧ Hid (decide (l.drop k = m.drop k) = R) ∧ Below w.heap.size w wr)
    case atStart => exact ⟨0, by go_num, by omega, by omega, Lib.hid HR.out, Below.refl _ _⟩
    case round =>
      obtain ⟨k, rfl, hk, hkx, HK, hB⟩ := hrel
      by_cases hlt : k < n
      · have hn0 : n ≤ 100000 := HL.out.1
        have hin : (0 : Int) ≤ (k : Int) ∧ (k : Int) < (n : Int) := by omega
        have hk1 : k < l.length := by have := HN2.out; omega
        have hk2 : k < m.length := by have := HN2.out; have := HN.out; omega
        have hst := drop_eq_step hk1 hk2
        obtain ⟨g1, o1, d1, e1, _, c3⟩ := H1.out.some (by omega)
        obtain ⟨g2, o2, d2, e2, _, c4⟩ := H2.out.some (by omega)
        obtain ⟨rfl, n1, rfl⟩ := Value.slice.inj e1
        obtain ⟨rfl, n2, rfl⟩ := Value.slice.inj e2
        clear e1 e2 n1 n2
        obtain ⟨x0, x1, x2⟩ := get3d c3 (List.getElem?_eq_getElem hk1)
        obtain ⟨y0, y1, y2⟩ := get3d c4 (List.getElem?_eq_getElem hk2)
        have hkz : HK.out = HK.out := rfl
        have HS := Lib.hid (show (decide (l[k] = m[k]) && decide (l.drop (k + 1) = m.drop (k + 1))) = R from by
          rw [← HK.out, ← Bool.decide_and]; exact decide_eq_decide.2 hst.symm)
        clear c3 c4 hst hkz HK
        generalize l[k] = x at *
        generalize m[k] = y at *
        clear hk1 hk2
        obtain ⟨xf, xt, xb⟩ := x
        obtain ⟨yf, yt, yb⟩ := y
        dsimp only at x0 x1 x2 y0 y1 y2
        have q := pl_neq xf xt xb yf yt yb
        have x0 := kc hB x0
        have x1 := kc hB x1
        have x2 := kc hB x2
        have y0 := kc hB y0
        have y1 := kc hB y1
        have y2 := kc hB y2
        go_wp2_with fail
        refine wp_region_plan (fun w' => w'.cell? ⟨g1, o1 + k * 3, none⟩ = some (.int .i64 xf) ∧ w'.cell? ⟨g1, o1 + k * 3 + 1, none⟩ = some (.int .i64 xt) ∧ w'.cell? ⟨g1, o1 + k * 3 + 2, none⟩ = some (.int .i64 xb) ∧ w'.cell? ⟨g2, o2 + k * 3, none⟩ = some (.int .i64 yf) ∧ w'.cell? ⟨g2, o2 + k * 3 + 1, none⟩ = some (.int .i64 yt) ∧ w'.cell? ⟨g2, o2 + k * 3 + 2, none⟩ = some (.int .i64 yb) ∧ Below w.heap.size w w') (by kernel_rfl) (by kernel_rfl) (by kernel_rfl) ?_ ?_
        · (try dsimp only)
          refine ⟨?_, ?_, ?_, ?_, ?_, ?_, ?_⟩ <;> first | (go_simp; done) | (simp [*]; done) | go_grown
        repeat (first
          | (refine Plan.val (v := ?_) ?_ ?_ ?_; rotate_left; (· rfl); (· (intro W hSw; (try dsimp only at hSw); go_simp; all_goals (first | (with_reducible rfl) | (constructor <;> (with_reducible rfl)) | (rw [if_neg (by omega)]; done) | (rw [if_neg (by omega)]; with_reducible rfl)))); (try simp only [Act.put, List.setIfInBounds_toArray, List.set_cons_zero, List.set_cons_succ]))
          | (refine Plan.no ?_ ?_; (· rfl); (try simp only [Act.put, List.setIfInBounds_toArray, List.set_cons_zero, List.set_cons_succ])))
        refine Plan.done ?_
        intro u1 T
        (try dsimp only at T)
        obtain ⟨hx_0, hx_1, hx_2, hy_0, hy_1, hy_2, hB⟩ := T
        have hsz := hB.size
        have hlx := klt hx_0
        have hly := klt hy_0
        have hnx0 : ¬ (g1 = u1.heap.size) := by omega
        have hnx1 : ¬ (g1 = u1.heap.size + 1) := by omega
        have hkx1 : g1 < u1.heap.size + 1 := by omega
        have hnx2 : ¬ (g1 = u1.heap.size + 1 + 1) := by omega
        have hkx2 : g1 < u1.heap.size + 1 + 1 := by omega
        have hny0 : ¬ (g2 = u1.heap.size) := by omega
        have hny1 : ¬ (g2 = u1.heap.size + 1) := by omega
        have hky1 : g2 < u1.heap.size + 1 := by omega
        have hny2 : ¬ (g2 = u1.heap.size + 1 + 1) := by omega
        have hky2 : g2 < u1.heap.size + 1 + 1 := by omega
        have hbq : (!decide (xf = yf) || (!decide (xt = yt) || !decide (xb = yb))) = !decide ((⟨xf, xt, xb⟩ : Sp) = ⟨yf, yt, yb⟩) := by
          simp only [Sp.mk.injEq, Bool.decide_and, Bool.not_and]
        rw [hbq]
        obtain ⟨B, hB2⟩ : ∃ B, decide ((⟨xf, xt, xb⟩ : Sp) = ⟨yf, yt, yb⟩) = B := ⟨_, rfl⟩
        rw [hB2] at HS ⊢
        clear hbq hB2 q
        cases B
        · have HF := Lib.hid (show R = false from by rw [← HS.out]; rfl)
          go_wp2
          go_ret
          exact ⟨ret_bool HF.out.symm, hB⟩
        · have HF := Lib.hid (show decide (l.drop (k + 1) = m.drop (k + 1)) = R from by rw [← HS.out, Bool.true_and])
          go_wp2
          go_roundg (n - (k + 1))
          case measure => omega
          case rel => exact ⟨k + 1, by go_num, by omega, by omega, HF, hB⟩
      · have HF := Lib.hid (show R = true from by
          rw [← HK.out, List.drop_eq_nil_of_le (by have := HN2.out; omega), List.drop_eq_nil_of_le (by have := HN2.out; have := HN.out; omega)]; simp)
        go_wp2
        go_ret
        exact ⟨ret_bool HF.out.symm, hB⟩
  · have e0 : ((l.length : Int) != (m.length : Int)) = true := by simp [bne]; omega
    have HF := Lib.hid (show R = false from by rw [← HR.out]; exact decide_eq_false (fun h => hn (by rw [h])))
    go_enter Tryz.func14, Tryz.ntmps14
    go_wp2
    go_ret
    exact ⟨ret_bool HF.out.symm, Below.refl _ _⟩
end Go.Proofs.YtjcmblbnbpikfaaGreatDoor
