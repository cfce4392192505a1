/-
  Layer 7's document: spans by rising places.
-/
import Derived.Test.YtcilnbkmaoneaaaDoc2
import Derived.Test.YtcilnbkmaoneaaaAppendH
set_option linter.unusedSimpArgs false
set_option linter.unusedVariables false
namespace Go.Proofs.Ytcilnbkmaoneaaa
open Go.RowKit Go.PlainAid

theorem Try.infoD : (Try.prog.info? 50).map (fun i => (i.zero, i.size, i.bytes)) = some (some (.agg #[.int .i64 0, .int .i64 0, .int .i64 0]), 3, 24) := by kernel_rfl
theorem one_holds (W : World) (T : TypeId) (f t b : Int) : HoldsE Sp.plain 3 (W.alloc (.cells #[.int .i64 f, .int .i64 t, .int .i64 b] T)) (.slice (some ⟨W.heap.size, 0, none⟩) 1 1) [⟨f, t, b⟩] := by
  refine .inr ⟨W.heap.size, 0, 1, rfl, Nat.le_refl _, fun j x hx i u hu => ?_⟩
  have hh := heap_alloc_new W (.cells #[.int .i64 f, .int .i64 t, .int .i64 b] T)
  cases j with
  | zero =>
    cases hx
    simp only [World.cell?, hh, Nat.zero_mul, Nat.add_zero, Nat.zero_add]
    rw [← hu]
    simp [Sp.plain]
  | succ j => simp at hx
set_option maxRecDepth 100000 in
set_option maxHeartbeats 2000000 in
theorem sortd_c (l : List Sp) (hl : l.length ≤ 1000) (v : Value) (w : World) (hv : HoldsD w v l) : Calls Try.prog 17 #[v] w fun e w' => ∃ v', e = .returned v' ∧ w'.ownsRow w.heap.size 50 3 v' l.length ((sortS l).flatMap Sp.plain) ∧ Below w.heap.size w w' := by
  obtain ⟨R, hR⟩ : ∃ R, sortS l = R := ⟨_, rfl⟩
  rw [hR]
  obtain ⟨a1, c1, rfl⟩ := hv.form
  obtain ⟨n, hn⟩ : ∃ n, l.length = n := ⟨_, rfl⟩
  rw [hn] at hv hl ⊢
  obtain ⟨i0, hi, hz0, hz1, hz2⟩ := info_parts Try.infoD
  have HV := Lib.hid hv
  have HR := Lib.hid hR
  have HN := Lib.hid hn
  clear hv hR hn
  go_enter Try.func17, Try.ntmps17
  go_wp2
  go_loopg [3, 4] n (fun kx s3 s4 wr => ∃ (k : Nat) (acc : List Sp), s4 = .int .i64 k ∧ k ≤ n ∧ n - k ≤ kx ∧ Hid (acc.length = k ∧ sortA acc (l.drop k) = R) ∧ Hid (wr.ownsRow w.heap.size 50 3 s3 k (acc.flatMap Sp.plain)) ∧ Below w.heap.size w wr)
  case atStart => exact ⟨0, [], by go_num, by omega, by omega, Lib.hid ⟨rfl, by rw [List.drop_zero]; exact HR.out⟩, Lib.hid (World.ownsRow_nil _ _ _ _), by go_grown⟩
  case round =>
    obtain ⟨k, acc, rfl, hk, hkx, HQ, HO, hB⟩ := hrel
    obtain ⟨wo, rfl⟩ : ∃ W, W = wr := ⟨wr, rfl⟩
    by_cases hlt : k < n
    · have hin : (0 : Int) ≤ (k : Int) ∧ (k : Int) < (n : Int) := by omega
      have hk1 : k < l.length := by have := HN.out; omega
      obtain ⟨g1, o1, d1, e1, _, c3⟩ := HV.out.some (by omega)
      obtain ⟨rfl, n1, rfl⟩ := Value.slice.inj e1
      clear e1 n1
      obtain ⟨x0, x1, x2⟩ := get3d c3 (List.getElem?_eq_getElem hk1)
      obtain ⟨q1, q2⟩ := HQ.out
      rw [List.drop_eq_getElem_cons hk1, sortA] at q2
      clear c3 HQ
      generalize l[k] = x at *
      clear hk1
      obtain ⟨xf, xt, xb⟩ := x
      dsimp only at x0 x1 x2
      have hx_0 := kc hB x0
      have hx_1 := kc hB x1
      have hx_2 := kc hB x2
      have HQ := Lib.hid (And.intro q1 q2)
      have HB := Lib.hid hB
      have hh : HoldsD wo u3 acc := HoldsE.own pl_len (by rw [q1]; exact HO.out)
      clear x0 x1 x2 q2 hB
      have hB : Below wo.heap.size wo wo := Below.refl _ _
      have hbase : wo.heap.size ≤ wo.heap.size := Nat.le_refl _
      rcases hh with ⟨rfl, e⟩ | ⟨g2, o2, d2, e2, hcap, hc⟩
      · subst e
        have hk0 : k ≤ 0 := Nat.le_of_eq q1.symm
        clear q1
        go_wp2
        refine wp_loop_rounds 1 ?_
        rw [rounds_succ]
        go_wp2_with fail
        refine wp_region_plan (fun w' => w'.cell? ⟨g1, o1 + k * 3, none⟩ = some (.int .i64 xf) ∧ w'.cell? ⟨g1, o1 + k * 3 + 1, none⟩ = some (.int .i64 xt) ∧ w'.cell? ⟨g1, o1 + k * 3 + 2, none⟩ = some (.int .i64 xb) ∧ Below wo.heap.size wo w') (by kernel_rfl) (by kernel_rfl) (by kernel_rfl) ?_ ?_
        · (try dsimp only)
          refine ⟨?_, ?_, ?_, ?_⟩ <;> first | (go_simp; done) | (simp [*]; done) | go_grown
        repeat (first
          | (refine Plan.val (v := ?_) ?_ ?_ ?_; rotate_left; (· rfl); (· (intro W hSw; (try dsimp only at hSw); go_simp; all_goals (first | (with_reducible rfl) | (constructor <;> (with_reducible rfl)) | (rw [if_neg (by omega)]; done) | (rw [if_neg (by omega)]; with_reducible rfl)))); (try simp only [Act.put, List.setIfInBounds_toArray, List.set_cons_zero, List.set_cons_succ]))
          | (refine Plan.no ?_ ?_; (· rfl); (try simp only [Act.put, List.setIfInBounds_toArray, List.set_cons_zero, List.set_cons_succ])))
        refine Plan.done ?_
        intro z T
        (try dsimp only at T)
        obtain ⟨hx_0, hx_1, hx_2, hB⟩ := T
        have hsz := hB.size
        have hlx := klt hx_0
        obtain ⟨hnx0, hnx1, hkx1, hnx2, hkx2⟩ := ap0 hlx
        obtain ⟨zz, rfl⟩ : ∃ W, W = z := ⟨z, rfl⟩
        have HI := Lib.hid (show insS ⟨xf, xt, xb⟩ [] = [] ++ (⟨xf, xt, xb⟩ : Sp) :: [] from rfl)
        have HL1 := Lib.hid (show ([] : List Sp).length = 0 from by have hq := HQ.out.1; (first | rfl | (simp only [List.length_take, List.length_drop, List.length_nil]; omega)))
        have HL2 := Lib.hid (show ([] : List Sp).length = k - 0 from by have hq := HQ.out.1; (simp only [List.length_take, List.length_drop, List.length_nil]; omega))
        have hzz := hB.size
        have HB1 := Lib.hid hB
        have X0 := Lib.hid (And.intro hx_0 (And.intro hx_1 hx_2))
        clear hB hx_0 hx_1 hx_2
        go_wp2_with (at_builtin; refine wpList_append_holds pl_len (by decide) pl_one rfl _ _ 33 rfl wo.heap.size 50 i0 _ 24 Try.underlying33 hi hz0 hz1 hz2 rfl _ 0 _ rfl (World.ownsRow_nil _ _ _ _) _ ([]) rfl (HoldsE.nil _) ?c4 ?c5 ?c6 ?_)
        case c4 => (try rw [HL1.out]); (try rw [HL2.out]); unfold maxLen; (try simp only [List.length_cons, List.length_nil]); omega
        case c5 => (try rw [HL1.out]); (try rw [HL2.out]); (try simp only [List.length_cons, List.length_nil]); omega
        case c6 => (try simp only [World.size_alloc]); omega
        intro v1 w1 ho1 hg1
        have HO1 := Lib.hid (show w1.ownsRow wo.heap.size 50 3 v1 0 (([] : List Sp).flatMap Sp.plain) from by (try rw [show min m acc.length = m from by have := HQ.out.1; omega] at ho1); exact ho1)
        have hBz : Below zz.heap.size zz w1 := Below.grown (Below.refl _ _) hg1 (Nat.le_refl _) (fun k hk => by cases hk)
        have hx_0 := kc hBz X0.out.1
        have hx_1 := kc hBz X0.out.2.1
        have hx_2 := kc hBz X0.out.2.2
        have hz1w := hBz.size
        have HB2 := Lib.hid (Below.trans HB1.out (hBz.mono hzz))
        clear ho1 hg1 hBz
        go_wp2_with (at_builtin; refine wpList_append_holds pl_len (by decide) pl_one rfl _ _ 33 rfl wo.heap.size 50 i0 _ 24 Try.underlying33 hi hz0 hz1 hz2 rfl _ _ _ rfl (own_below HO1.out (by go_grown)) _ [⟨xf, xt, xb⟩] rfl (one_holds _ _ _ _ _) ?c4 ?c5 ?c6 ?_)
        case c4 => (try rw [HL1.out]); (try rw [HL2.out]); unfold maxLen; (try simp only [List.length_cons, List.length_nil]); omega
        case c5 => (try rw [HL1.out]); (try rw [HL2.out]); (try simp only [List.length_cons, List.length_nil]); omega
        case c6 => (try simp only [World.size_alloc]); omega
        intro v2 w2 ho2 hg2
        have HB3 := Lib.hid (show Below wo.heap.size wo w2 from Below.grown (HB2.out.alloc (by have := HB2.out.size; omega) _) hg2 (by simp; omega) (fun k hk => (HO1.out.lt k hk).1))
        have HO2 := Lib.hid (show w2.ownsRow wo.heap.size 50 3 v2 (0 + 1) (([] ++ [⟨xf, xt, xb⟩] : List Sp).flatMap Sp.plain) from by rw [List.flatMap_append]; exact ho2)
        have hz2w := HB3.out.size
        clear ho2 hg2
        go_wp2_with (at_builtin; refine wpList_append_holds pl_len (by decide) pl_one rfl _ _ 33 rfl wo.heap.size 50 i0 _ 24 Try.underlying33 hi hz0 hz1 hz2 rfl _ _ _ rfl HO2.out _ ([]) rfl (HoldsE.nil _) ?c4 ?c5 ?c6 ?_)
        case c4 => (try rw [HL1.out]); (try rw [HL2.out]); unfold maxLen; (try simp only [List.length_cons, List.length_nil]); omega
        case c5 => (try rw [HL1.out]); (try rw [HL2.out]); (try simp only [List.length_cons, List.length_nil]); omega
        case c6 => (try simp only [World.size_alloc]); omega
        intro v3 w3 ho3 hg3
        have HB4 := Below.trans HB.out ((Below.grown HB3.out hg3 (by omega) (fun k hk => (HO2.out.lt k hk).1)).mono HB.out.size)
        have HO3 := Lib.hid (show w3.ownsRow w.heap.size 50 3 v3 (k + 1) ((insS ⟨xf, xt, xb⟩ []).flatMap Sp.plain) from by
          rw [HI.out, List.flatMap_append, List.flatMap_cons, show k + 1 = 0 + 1 + (k - 0) from by omega]
          (try simp only [List.length_drop] at ho3)
          (try rw [show acc.length - m = k - m from by have := HQ.out.1; omega] at ho3)
          (try rw [show k - 0 = 0 from by omega])
          exact own_low ho3 HB.out.size)
        clear ho3 hg3
        go_wp2
        go_roundg (n - (k + 1))
        case measure => omega
        case rel => exact ⟨k + 1, insS ⟨xf, xt, xb⟩ [], by go_num, by omega, by omega, Lib.hid ⟨by rw [insS_len, HQ.out.1], HQ.out.2⟩, HO3, HB4⟩
      · rw [q1] at e2 hcap
        subst e2
        have HC := Lib.hid (And.intro hcap hc)
        clear hcap hc q1
        go_wp2
        go_loopg [5] k (fun ky s5 wy => ∃ (m : Nat), s5 = .int .i64 m ∧ m ≤ k ∧ k - m ≤ ky ∧ Hid (∀ j (y : Sp), j < m → acc[j]? = some y → y.f ≤ xf) ∧ Below wo.heap.size wo wy)
        case atStart => exact ⟨0, by go_num, by omega, by omega, Lib.hid (fun j y h => absurd h (by omega)), Below.refl _ _⟩
        case round =>
          obtain ⟨m, rfl, hm, hmy, HM, hBy⟩ := hrel
          have hx_0 := kc hBy hx_0
          have hx_1 := kc hBy hx_1
          have hx_2 := kc hBy hx_2
          clear hB
          have hB := hBy
          clear hBy
          by_cases hlt2 : m < k
          · have hin2 : (0 : Int) ≤ (m : Int) ∧ (m : Int) < (k : Int) := by omega
            have hm1 : m < acc.length := by have := HQ.out.1; omega
            obtain ⟨y0, _, _⟩ := get3d HC.out.2 (List.getElem?_eq_getElem hm1)
            have HY := Lib.hid (List.getElem?_eq_getElem hm1)
            generalize acc[m] = y at *
            clear hm1
            obtain ⟨yf, yt, yb⟩ := y
            dsimp only at y0
            have hy_0 := kc hB y0
            clear y0
            by_cases hle : yf ≤ xf
            · go_wp2_with fail
              refine wp_region_plan (fun w' => w'.cell? ⟨g1, o1 + k * 3, none⟩ = some (.int .i64 xf) ∧ w'.cell? ⟨g1, o1 + k * 3 + 1, none⟩ = some (.int .i64 xt) ∧ w'.cell? ⟨g1, o1 + k * 3 + 2, none⟩ = some (.int .i64 xb) ∧ w'.cell? ⟨g2, o2 + m * 3, none⟩ = some (.int .i64 yf) ∧ Below wo.heap.size wo w') (by kernel_rfl) (by kernel_rfl) (by kernel_rfl) ?_ ?_
              · (try dsimp only)
                refine ⟨?_, ?_, ?_, ?_, ?_⟩ <;> first | (go_simp; done) | (simp [*]; done) | go_grown
              repeat (first
                | (refine Plan.val (v := ?_) ?_ ?_ ?_; rotate_left; (· rfl); (· (intro W hSw; (try dsimp only at hSw); go_simp; all_goals (first | (with_reducible rfl) | (constructor <;> (with_reducible rfl)) | (rw [if_neg (by omega)]; done) | (rw [if_neg (by omega)]; with_reducible rfl)))); (try simp only [Act.put, List.setIfInBounds_toArray, List.set_cons_zero, List.set_cons_succ]))
                | (refine Plan.no ?_ ?_; (· rfl); (try simp only [Act.put, List.setIfInBounds_toArray, List.set_cons_zero, List.set_cons_succ])))
              refine Plan.done ?_
              intro z T
              (try dsimp only at T)
              obtain ⟨hx_0, hx_1, hx_2, hy_0, hB⟩ := T
              have hsz := hB.size
              have hlx := klt hx_0
              have hly := klt hy_0
              obtain ⟨hnx0, hnx1, hkx1, hnx2, hkx2⟩ := ap0 hlx
              obtain ⟨hny0, hny1, hky1, hny2, hky2⟩ := ap0 hly
              go_wp2
              go_roundg (k - (m + 1))
              case measure => omega
              case rel =>
                refine ⟨m + 1, by go_num, by omega, by omega, Lib.hid (fun j y hj hy => ?_), hB⟩
                by_cases h : j = m
                · subst h; rw [HY.out] at hy; cases hy; exact hle
                · exact HM.out j y (by omega) hy
            · have hle' : xf < yf := by omega
              have hle'' : decide (yf ≤ xf) = false := decide_eq_false hle
              go_wp2_with fail
              refine wp_region_plan (fun w' => w'.cell? ⟨g1, o1 + k * 3, none⟩ = some (.int .i64 xf) ∧ w'.cell? ⟨g1, o1 + k * 3 + 1, none⟩ = some (.int .i64 xt) ∧ w'.cell? ⟨g1, o1 + k * 3 + 2, none⟩ = some (.int .i64 xb) ∧ w'.cell? ⟨g2, o2 + m * 3, none⟩ = some (.int .i64 yf) ∧ Below wo.heap.size wo w') (by kernel_rfl) (by kernel_rfl) (by kernel_rfl) ?_ ?_
              · (try dsimp only)
                refine ⟨?_, ?_, ?_, ?_, ?_⟩ <;> first | (go_simp; done) | (simp [*]; done) | go_grown
              repeat (first
                | (refine Plan.val (v := ?_) ?_ ?_ ?_; rotate_left; (· rfl); (· (intro W hSw; (try dsimp only at hSw); go_simp; all_goals (first | (with_reducible rfl) | (constructor <;> (with_reducible rfl)) | (rw [if_neg (by omega)]; done) | (rw [if_neg (by omega)]; with_reducible rfl)))); (try simp only [Act.put, List.setIfInBounds_toArray, List.set_cons_zero, List.set_cons_succ]))
                | (refine Plan.no ?_ ?_; (· rfl); (try simp only [Act.put, List.setIfInBounds_toArray, List.set_cons_zero, List.set_cons_succ])))
              refine Plan.done ?_
              intro z T
              (try dsimp only at T)
              obtain ⟨hx_0, hx_1, hx_2, hy_0, hB⟩ := T
              have hsz := hB.size
              have hlx := klt hx_0
              have hly := klt hy_0
              obtain ⟨hnx0, hnx1, hkx1, hnx2, hkx2⟩ := ap0 hlx
              obtain ⟨hny0, hny1, hky1, hny2, hky2⟩ := ap0 hly
              have hmd : m ≤ d2 := by have := HC.out.1; omega
              have hnd : ¬ d2 = m := by have := HC.out.1; omega
              obtain ⟨zz, rfl⟩ : ∃ W, W = z := ⟨z, rfl⟩
              have HI := Lib.hid (insS_at (x := ⟨xf, xt, xb⟩) (l := acc) (m := m) (by have := HQ.out.1; omega) HM.out (fun y hy => by rw [HY.out] at hy; cases hy; exact hle'))
              have HL1 := Lib.hid (show (acc.take m : List Sp).length = m from by have hq := HQ.out.1; (first | rfl | (simp only [List.length_take, List.length_drop, List.length_nil]; omega)))
              have HL2 := Lib.hid (show (acc.drop m : List Sp).length = k - m from by have hq := HQ.out.1; (simp only [List.length_take, List.length_drop, List.length_nil]; omega))
              have hzz := hB.size
              have HB1 := Lib.hid hB
              have X0 := Lib.hid (And.intro hx_0 (And.intro hx_1 hx_2))
              clear hB hx_0 hx_1 hx_2
              go_wp2_with (at_builtin; refine wpList_append_holds pl_len (by decide) pl_one rfl _ _ 33 rfl wo.heap.size 50 i0 _ 24 Try.underlying33 hi hz0 hz1 hz2 rfl _ 0 _ rfl (World.ownsRow_nil _ _ _ _) _ (acc.take m) rfl (cells_take (l := acc) (m := m) (fun j x hx i u hu => kc HB1.out (HC.out.2 j x hx i u hu)) (by have := HQ.out.1; omega) (by have := HQ.out.1; have := HC.out.1; omega)) ?c4 ?c5 ?c6 ?_)
              case c4 => (try rw [HL1.out]); (try rw [HL2.out]); unfold maxLen; (try simp only [List.length_cons, List.length_nil]); omega
              case c5 => (try rw [HL1.out]); (try rw [HL2.out]); (try simp only [List.length_cons, List.length_nil]); omega
              case c6 => (try simp only [World.size_alloc]); omega
              intro v1 w1 ho1 hg1
              have HO1 := Lib.hid (show w1.ownsRow wo.heap.size 50 3 v1 m ((acc.take m : List Sp).flatMap Sp.plain) from by (try rw [show min m acc.length = m from by have := HQ.out.1; omega] at ho1); exact ho1)
              have hBz : Below zz.heap.size zz w1 := Below.grown (Below.refl _ _) hg1 (Nat.le_refl _) (fun k hk => by cases hk)
              have hx_0 := kc hBz X0.out.1
              have hx_1 := kc hBz X0.out.2.1
              have hx_2 := kc hBz X0.out.2.2
              have hz1w := hBz.size
              have HB2 := Lib.hid (Below.trans HB1.out (hBz.mono hzz))
              clear ho1 hg1 hBz
              go_wp2_with (at_builtin; refine wpList_append_holds pl_len (by decide) pl_one rfl _ _ 33 rfl wo.heap.size 50 i0 _ 24 Try.underlying33 hi hz0 hz1 hz2 rfl _ _ _ rfl (own_below HO1.out (by go_grown)) _ [⟨xf, xt, xb⟩] rfl (one_holds _ _ _ _ _) ?c4 ?c5 ?c6 ?_)
              case c4 => (try rw [HL1.out]); (try rw [HL2.out]); unfold maxLen; (try simp only [List.length_cons, List.length_nil]); omega
              case c5 => (try rw [HL1.out]); (try rw [HL2.out]); (try simp only [List.length_cons, List.length_nil]); omega
              case c6 => (try simp only [World.size_alloc]); omega
              intro v2 w2 ho2 hg2
              have HB3 := Lib.hid (show Below wo.heap.size wo w2 from Below.grown (HB2.out.alloc (by have := HB2.out.size; omega) _) hg2 (by simp; omega) (fun k hk => (HO1.out.lt k hk).1))
              have HO2 := Lib.hid (show w2.ownsRow wo.heap.size 50 3 v2 (m + 1) ((acc.take m ++ [⟨xf, xt, xb⟩] : List Sp).flatMap Sp.plain) from by rw [List.flatMap_append]; exact ho2)
              have hz2w := HB3.out.size
              clear ho2 hg2
              go_wp2_with (at_builtin; refine wpList_append_holds pl_len (by decide) pl_one rfl _ _ 33 rfl wo.heap.size 50 i0 _ 24 Try.underlying33 hi hz0 hz1 hz2 rfl _ _ _ rfl HO2.out _ (acc.drop m) rfl (by rw [show k - m = acc.length - m from by have := HQ.out.1; omega]; exact cells_drop (l := acc) (m := m) (fun j x hx i u hu => kc HB3.out (HC.out.2 j x hx i u hu)) (by have := HQ.out.1; omega) (by have := HQ.out.1; have := HC.out.1; omega)) ?c4 ?c5 ?c6 ?_)
              case c4 => (try rw [HL1.out]); (try rw [HL2.out]); unfold maxLen; (try simp only [List.length_cons, List.length_nil]); omega
              case c5 => (try rw [HL1.out]); (try rw [HL2.out]); (try simp only [List.length_cons, List.length_nil]); omega
              case c6 => (try simp only [World.size_alloc]); omega
              intro v3 w3 ho3 hg3
              have HB4 := Below.trans HB.out ((Below.grown HB3.out hg3 (by omega) (fun k hk => (HO2.out.lt k hk).1)).mono HB.out.size)
              have HO3 := Lib.hid (show w3.ownsRow w.heap.size 50 3 v3 (k + 1) ((insS ⟨xf, xt, xb⟩ acc).flatMap Sp.plain) from by
                rw [HI.out, List.flatMap_append, List.flatMap_cons, show k + 1 = m + 1 + (k - m) from by omega]
                (try simp only [List.length_drop] at ho3)
                (try rw [show acc.length - m = k - m from by have := HQ.out.1; omega] at ho3)
                (try rw [show k - 0 = 0 from by omega])
                exact own_low ho3 HB.out.size)
              clear ho3 hg3
              go_wp2
              go_roundg (n - (k + 1))
              case measure => omega
              case rel => exact ⟨k + 1, insS ⟨xf, xt, xb⟩ acc, by go_num, by omega, by omega, Lib.hid ⟨by rw [insS_len, HQ.out.1], HQ.out.2⟩, HO3, HB4⟩
          · go_wp2_with fail
            refine wp_region_plan (fun w' => w'.cell? ⟨g1, o1 + k * 3, none⟩ = some (.int .i64 xf) ∧ w'.cell? ⟨g1, o1 + k * 3 + 1, none⟩ = some (.int .i64 xt) ∧ w'.cell? ⟨g1, o1 + k * 3 + 2, none⟩ = some (.int .i64 xb) ∧ Below wo.heap.size wo w') (by kernel_rfl) (by kernel_rfl) (by kernel_rfl) ?_ ?_
            · (try dsimp only)
              refine ⟨?_, ?_, ?_, ?_⟩ <;> first | (go_simp; done) | (simp [*]; done) | go_grown
            repeat (first
              | (refine Plan.val (v := ?_) ?_ ?_ ?_; rotate_left; (· rfl); (· (intro W hSw; (try dsimp only at hSw); go_simp; all_goals (first | (with_reducible rfl) | (constructor <;> (with_reducible rfl)) | (rw [if_neg (by omega)]; done) | (rw [if_neg (by omega)]; with_reducible rfl)))); (try simp only [Act.put, List.setIfInBounds_toArray, List.set_cons_zero, List.set_cons_succ]))
              | (refine Plan.no ?_ ?_; (· rfl); (try simp only [Act.put, List.setIfInBounds_toArray, List.set_cons_zero, List.set_cons_succ])))
            refine Plan.done ?_
            intro z T
            (try dsimp only at T)
            obtain ⟨hx_0, hx_1, hx_2, hB⟩ := T
            have hsz := hB.size
            have hlx := klt hx_0
            obtain ⟨hnx0, hnx1, hkx1, hnx2, hkx2⟩ := ap0 hlx
            by_cases hnd : d2 = m
            · have hmd : m ≤ d2 := by have := HC.out.1; omega
              obtain ⟨zz, rfl⟩ : ∃ W, W = z := ⟨z, rfl⟩
              have HI := Lib.hid (insS_at (x := ⟨xf, xt, xb⟩) (l := acc) (m := m) (by have := HQ.out.1; omega) HM.out (fun y hy => by rw [List.getElem?_eq_none (by have := HQ.out.1; omega)] at hy; cases hy))
              have HL1 := Lib.hid (show (acc.take m : List Sp).length = m from by have hq := HQ.out.1; (first | rfl | (simp only [List.length_take, List.length_drop, List.length_nil]; omega)))
              have HL2 := Lib.hid (show (acc.drop m : List Sp).length = k - m from by have hq := HQ.out.1; (simp only [List.length_take, List.length_drop, List.length_nil]; omega))
              have hzz := hB.size
              have HB1 := Lib.hid hB
              have X0 := Lib.hid (And.intro hx_0 (And.intro hx_1 hx_2))
              clear hB hx_0 hx_1 hx_2
              go_wp2_with (at_builtin; refine wpList_append_holds pl_len (by decide) pl_one rfl _ _ 33 rfl wo.heap.size 50 i0 _ 24 Try.underlying33 hi hz0 hz1 hz2 rfl _ 0 _ rfl (World.ownsRow_nil _ _ _ _) _ (acc.take m) rfl (cells_take (l := acc) (m := m) (fun j x hx i u hu => kc HB1.out (HC.out.2 j x hx i u hu)) (by have := HQ.out.1; omega) (by have := HQ.out.1; have := HC.out.1; omega)) ?c4 ?c5 ?c6 ?_)
              case c4 => (try rw [HL1.out]); (try rw [HL2.out]); unfold maxLen; (try simp only [List.length_cons, List.length_nil]); omega
              case c5 => (try rw [HL1.out]); (try rw [HL2.out]); (try simp only [List.length_cons, List.length_nil]); omega
              case c6 => (try simp only [World.size_alloc]); omega
              intro v1 w1 ho1 hg1
              have HO1 := Lib.hid (show w1.ownsRow wo.heap.size 50 3 v1 m ((acc.take m : List Sp).flatMap Sp.plain) from by (try rw [show min m acc.length = m from by have := HQ.out.1; omega] at ho1); exact ho1)
              have hBz : Below zz.heap.size zz w1 := Below.grown (Below.refl _ _) hg1 (Nat.le_refl _) (fun k hk => by cases hk)
              have hx_0 := kc hBz X0.out.1
              have hx_1 := kc hBz X0.out.2.1
              have hx_2 := kc hBz X0.out.2.2
              have hz1w := hBz.size
              have HB2 := Lib.hid (Below.trans HB1.out (hBz.mono hzz))
              clear ho1 hg1 hBz
              go_wp2_with (at_builtin; refine wpList_append_holds pl_len (by decide) pl_one rfl _ _ 33 rfl wo.heap.size 50 i0 _ 24 Try.underlying33 hi hz0 hz1 hz2 rfl _ _ _ rfl (own_below HO1.out (by go_grown)) _ [⟨xf, xt, xb⟩] rfl (one_holds _ _ _ _ _) ?c4 ?c5 ?c6 ?_)
              case c4 => (try rw [HL1.out]); (try rw [HL2.out]); unfold maxLen; (try simp only [List.length_cons, List.length_nil]); omega
              case c5 => (try rw [HL1.out]); (try rw [HL2.out]); (try simp only [List.length_cons, List.length_nil]); omega
              case c6 => (try simp only [World.size_alloc]); omega
              intro v2 w2 ho2 hg2
              have HB3 := Lib.hid (show Below wo.heap.size wo w2 from Below.grown (HB2.out.alloc (by have := HB2.out.size; omega) _) hg2 (by simp; omega) (fun k hk => (HO1.out.lt k hk).1))
              have HO2 := Lib.hid (show w2.ownsRow wo.heap.size 50 3 v2 (m + 1) ((acc.take m ++ [⟨xf, xt, xb⟩] : List Sp).flatMap Sp.plain) from by rw [List.flatMap_append]; exact ho2)
              have hz2w := HB3.out.size
              clear ho2 hg2
              go_wp2_with (at_builtin; refine wpList_append_holds pl_len (by decide) pl_one rfl _ _ 33 rfl wo.heap.size 50 i0 _ 24 Try.underlying33 hi hz0 hz1 hz2 rfl _ _ _ rfl HO2.out _ (acc.drop m) rfl (.inr ⟨g2, o2, 0, by rw [List.length_drop, HQ.out.1]; rfl, by rw [List.length_drop, HQ.out.1]; have := HC.out.1; omega, fun j x hx => by rw [List.drop_eq_nil_of_le (by have := HQ.out.1; omega)] at hx; cases hx⟩) ?c4 ?c5 ?c6 ?_)
              case c4 => (try rw [HL1.out]); (try rw [HL2.out]); unfold maxLen; (try simp only [List.length_cons, List.length_nil]); omega
              case c5 => (try rw [HL1.out]); (try rw [HL2.out]); (try simp only [List.length_cons, List.length_nil]); omega
              case c6 => (try simp only [World.size_alloc]); omega
              intro v3 w3 ho3 hg3
              have HB4 := Below.trans HB.out ((Below.grown HB3.out hg3 (by omega) (fun k hk => (HO2.out.lt k hk).1)).mono HB.out.size)
              have HO3 := Lib.hid (show w3.ownsRow w.heap.size 50 3 v3 (k + 1) ((insS ⟨xf, xt, xb⟩ acc).flatMap Sp.plain) from by
                rw [HI.out, List.flatMap_append, List.flatMap_cons, show k + 1 = m + 1 + (k - m) from by omega]
                (try simp only [List.length_drop] at ho3)
                (try rw [show acc.length - m = k - m from by have := HQ.out.1; omega] at ho3)
                (try rw [show k - 0 = 0 from by omega])
                exact own_low ho3 HB.out.size)
              clear ho3 hg3
              go_wp2
              go_roundg (n - (k + 1))
              case measure => omega
              case rel => exact ⟨k + 1, insS ⟨xf, xt, xb⟩ acc, by go_num, by omega, by omega, Lib.hid ⟨by rw [insS_len, HQ.out.1], HQ.out.2⟩, HO3, HB4⟩
            · have hmd : m ≤ d2 := by have := HC.out.1; omega
              obtain ⟨zz, rfl⟩ : ∃ W, W = z := ⟨z, rfl⟩
              have HI := Lib.hid (insS_at (x := ⟨xf, xt, xb⟩) (l := acc) (m := m) (by have := HQ.out.1; omega) HM.out (fun y hy => by rw [List.getElem?_eq_none (by have := HQ.out.1; omega)] at hy; cases hy))
              have HL1 := Lib.hid (show (acc.take m : List Sp).length = m from by have hq := HQ.out.1; (first | rfl | (simp only [List.length_take, List.length_drop, List.length_nil]; omega)))
              have HL2 := Lib.hid (show (acc.drop m : List Sp).length = k - m from by have hq := HQ.out.1; (simp only [List.length_take, List.length_drop, List.length_nil]; omega))
              have hzz := hB.size
              have HB1 := Lib.hid hB
              have X0 := Lib.hid (And.intro hx_0 (And.intro hx_1 hx_2))
              clear hB hx_0 hx_1 hx_2
              go_wp2_with (at_builtin; refine wpList_append_holds pl_len (by decide) pl_one rfl _ _ 33 rfl wo.heap.size 50 i0 _ 24 Try.underlying33 hi hz0 hz1 hz2 rfl _ 0 _ rfl (World.ownsRow_nil _ _ _ _) _ (acc.take m) rfl (cells_take (l := acc) (m := m) (fun j x hx i u hu => kc HB1.out (HC.out.2 j x hx i u hu)) (by have := HQ.out.1; omega) (by have := HQ.out.1; have := HC.out.1; omega)) ?c4 ?c5 ?c6 ?_)
              case c4 => (try rw [HL1.out]); (try rw [HL2.out]); unfold maxLen; (try simp only [List.length_cons, List.length_nil]); omega
              case c5 => (try rw [HL1.out]); (try rw [HL2.out]); (try simp only [List.length_cons, List.length_nil]); omega
              case c6 => (try simp only [World.size_alloc]); omega
              intro v1 w1 ho1 hg1
              have HO1 := Lib.hid (show w1.ownsRow wo.heap.size 50 3 v1 m ((acc.take m : List Sp).flatMap Sp.plain) from by (try rw [show min m acc.length = m from by have := HQ.out.1; omega] at ho1); exact ho1)
              have hBz : Below zz.heap.size zz w1 := Below.grown (Below.refl _ _) hg1 (Nat.le_refl _) (fun k hk => by cases hk)
              have hx_0 := kc hBz X0.out.1
              have hx_1 := kc hBz X0.out.2.1
              have hx_2 := kc hBz X0.out.2.2
              have hz1w := hBz.size
              have HB2 := Lib.hid (Below.trans HB1.out (hBz.mono hzz))
              clear ho1 hg1 hBz
              go_wp2_with (at_builtin; refine wpList_append_holds pl_len (by decide) pl_one rfl _ _ 33 rfl wo.heap.size 50 i0 _ 24 Try.underlying33 hi hz0 hz1 hz2 rfl _ _ _ rfl (own_below HO1.out (by go_grown)) _ [⟨xf, xt, xb⟩] rfl (one_holds _ _ _ _ _) ?c4 ?c5 ?c6 ?_)
              case c4 => (try rw [HL1.out]); (try rw [HL2.out]); unfold maxLen; (try simp only [List.length_cons, List.length_nil]); omega
              case c5 => (try rw [HL1.out]); (try rw [HL2.out]); (try simp only [List.length_cons, List.length_nil]); omega
              case c6 => (try simp only [World.size_alloc]); omega
              intro v2 w2 ho2 hg2
              have HB3 := Lib.hid (show Below wo.heap.size wo w2 from Below.grown (HB2.out.alloc (by have := HB2.out.size; omega) _) hg2 (by simp; omega) (fun k hk => (HO1.out.lt k hk).1))
              have HO2 := Lib.hid (show w2.ownsRow wo.heap.size 50 3 v2 (m + 1) ((acc.take m ++ [⟨xf, xt, xb⟩] : List Sp).flatMap Sp.plain) from by rw [List.flatMap_append]; exact ho2)
              have hz2w := HB3.out.size
              clear ho2 hg2
              go_wp2_with (at_builtin; refine wpList_append_holds pl_len (by decide) pl_one rfl _ _ 33 rfl wo.heap.size 50 i0 _ 24 Try.underlying33 hi hz0 hz1 hz2 rfl _ _ _ rfl HO2.out _ (acc.drop m) rfl (by rw [show k - m = acc.length - m from by have := HQ.out.1; omega]; exact cells_drop (l := acc) (m := m) (fun j x hx i u hu => kc HB3.out (HC.out.2 j x hx i u hu)) (by have := HQ.out.1; omega) (by have := HQ.out.1; have := HC.out.1; omega)) ?c4 ?c5 ?c6 ?_)
              case c4 => (try rw [HL1.out]); (try rw [HL2.out]); unfold maxLen; (try simp only [List.length_cons, List.length_nil]); omega
              case c5 => (try rw [HL1.out]); (try rw [HL2.out]); (try simp only [List.length_cons, List.length_nil]); omega
              case c6 => (try simp only [World.size_alloc]); omega
              intro v3 w3 ho3 hg3
              have HB4 := Below.trans HB.out ((Below.grown HB3.out hg3 (by omega) (fun k hk => (HO2.out.lt k hk).1)).mono HB.out.size)
              have HO3 := Lib.hid (show w3.ownsRow w.heap.size 50 3 v3 (k + 1) ((insS ⟨xf, xt, xb⟩ acc).flatMap Sp.plain) from by
                rw [HI.out, List.flatMap_append, List.flatMap_cons, show k + 1 = m + 1 + (k - m) from by omega]
                (try simp only [List.length_drop] at ho3)
                (try rw [show acc.length - m = k - m from by have := HQ.out.1; omega] at ho3)
                (try rw [show k - 0 = 0 from by omega])
                exact own_low ho3 HB.out.size)
              clear ho3 hg3
              go_wp2
              go_roundg (n - (k + 1))
              case measure => omega
              case rel => exact ⟨k + 1, insS ⟨xf, xt, xb⟩ acc, by go_num, by omega, by omega, Lib.hid ⟨by rw [insS_len, HQ.out.1], HQ.out.2⟩, HO3, HB4⟩
    · have HF := Lib.hid (show acc = R from by rw [← HQ.out.2, List.drop_eq_nil_of_le (by have := HN.out; omega)]; rfl)
      have hkn : k = n := by omega
      go_wp2
      go_ret
      refine ⟨_, rfl, ?_, hB⟩
      rw [← HF.out, ← hkn]
      exact HO.out
end Go.Proofs.Ytcilnbkmaoneaaa
