/-
  Layer 14's laws: two lists of numbers compared.
-/
import Derived.Test.YtcplegelppfdeaaDoorSteps14
import Derived.Deep.LoopGhost
set_option linter.unusedSimpArgs false
set_option linter.unusedVariables false
namespace Go.Proofs.YtcplegelppfdeaaDoor
open Go.RowKit Go.PlainAid

theorem list_beq_at {a b : List Int} (hl : a.length = b.length) (h : ∀ j, j < a.length → a[j]? = b[j]?) : a = b := by
  apply List.ext_getElem? 
  intro j
  by_cases hj : j < a.length
  · exact h j hj
  · rw [List.getElem?_eq_none (by omega), List.getElem?_eq_none (by omega)]
set_option maxRecDepth 100000 in
set_option maxHeartbeats 4000000 in
theorem ints14_c (a b : List Int) (ha : a.length ≤ 100000) (hb : b.length ≤ 100000) (v1 v2 : Value) (w : World) (h1 : HoldsW nE 1 w v1 a) (h2 : HoldsW nE 1 w v2 b) :
    Calls Tryd.prog 11 #[v1, v2] w fun e w' => e = .returned (.bool (a == b)) ∧ Below w.heap.size w w' := by
  obtain ⟨R, hR⟩ : ∃ R, (a == b) = R := ⟨_, rfl⟩
  rw [hR]
  obtain ⟨p1, c1, rfl⟩ := h1.form
  obtain ⟨p2, c2, rfl⟩ := h2.form
  have H1 := Lib.hid h1
  have H2 := Lib.hid h2
  have HR := Lib.hid hR
  obtain ⟨n, hn⟩ : ∃ n, a.length = n := ⟨_, rfl⟩
  obtain ⟨m, hm⟩ : ∃ m, b.length = m := ⟨_, rfl⟩
  rw [hn] at ha H1 ⊢
  rw [hm] at hb H2 ⊢
  have HN := Lib.hid (And.intro hn hm)
  have HB := Lib.hid (Below.refl w.heap.size w)
  clear h1 h2 hn hm hR
  by_cases hnm : n = m
  · subst hnm
    have hne : ((n : Int) != (n : Int)) = false := by simp
    go_enter Tryd.func11, Tryd.ntmps11
    go_wp2_with fail
    go_loopg [5] n (fun kx s5 wr => ∃ k : Nat, s5 = .int .i64 k ∧ k ≤ n ∧ n - k ≤ kx ∧ Hid (Below w.heap.size w wr) ∧ Hid (∀ j, j < k → a[j]? = b[j]?))
    case atStart => exact ⟨0, by simp, Nat.zero_le _, by omega, HB, Lib.hid (fun j hj => absurd hj (Nat.not_lt_zero _))⟩
    case round =>
      obtain ⟨k, rfl, hk, hkx, HBr, HE⟩ := hrel
      by_cases hlt : k < n
      · have hka : k < a.length := by have := HN.out.1; omega
        have hkb : k < b.length := by have := HN.out.2; omega
        obtain ⟨g1, o1, cap1, e1, _, hc1⟩ := H1.out.some (by omega)
        obtain ⟨g2, o2, cap2, e2, _, hc2⟩ := H2.out.some (by omega)
        obtain ⟨rfl, -, rfl⟩ := Value.slice.inj e1
        obtain ⟨rfl, -, rfl⟩ := Value.slice.inj e2
        have x1 := hc1 k _ (List.getElem?_eq_getElem hka) 0 _ rfl
        have x2 := hc2 k _ (List.getElem?_eq_getElem hkb) 0 _ rfl
        rw [Nat.mul_one, Nat.add_zero] at x1 x2
        have HXY := Lib.hid (And.intro (List.getElem?_eq_getElem hka) (List.getElem?_eq_getElem hkb))
        generalize a[k] = X at *
        generalize b[k] = Y at *
        have hg1 := klt x1
        have hg2 := klt x2
        have hB := HBr.out
        have x1 := kc hB x1
        have x2 := kc hB x2
        have hl1 := klt x1
        have hl2 := klt x2
        have hin : (0 : Int) ≤ (k : Int) ∧ (k : Int) < (n : Int) := by omega
        clear e1 e2 hc1 hc2 hka hkb
        have hp_0 := x1
        have hq_0 := x2
        clear x1 x2
        go_wp2_with fail
        refine wp_region_plan (fun w' => w'.cell? ⟨g1, o1 + k, none⟩ = some (.int .i64 X) ∧ w'.cell? ⟨g2, o2 + k, none⟩ = some (.int .i64 Y) ∧ Below w.heap.size w w') (by kernel_rfl) (by kernel_rfl) (by kernel_rfl) ?_ ?_
        · (try dsimp only)
          refine ⟨?_, ?_, ?_⟩ <;> first | (go_simp; done) | (simp [*]; done) | go_grown
        repeat (first
          | (refine Plan.val (v := ?_) ?_ ?_ ?_; rotate_left; (· rfl); (· (intro W hSw; (try dsimp only at hSw); go_simp; all_goals (first | (with_reducible rfl) | (constructor <;> (with_reducible rfl)) | (rw [if_neg (by omega)]; done) | (rw [if_neg (by omega)]; with_reducible rfl)))); (try simp only [Act.put, List.setIfInBounds_toArray, List.set_cons_zero, List.set_cons_succ]))
          | (refine Plan.no ?_ ?_; (· rfl); (try simp only [Act.put, List.setIfInBounds_toArray, List.set_cons_zero, List.set_cons_succ])))
        refine Plan.done ?_
        intro u T
        (try dsimp only at T)
        obtain ⟨hp_0, hq_0, hB⟩ := T
        have hsz := hB.size
        have hlp := klt hp_0
        have hlq := klt hq_0
        obtain ⟨hnp0, hnp1, hkp1, hnp2, hkp2⟩ := ap0 hlp
        obtain ⟨hnq0, hnq1, hkq1, hnq2, hkq2⟩ := ap0 hlq
        have HB2 := Lib.hid hB
        by_cases hxy : X = Y
        · have hq : (X != Y) = false := by simpa using hxy
          have HE2 := Lib.hid (show ∀ j, j < k + 1 → a[j]? = b[j]? from fun j hj => by
            by_cases hjk : j = k
            · subst hjk; rw [HXY.out.1, HXY.out.2, hxy]
            · exact HE.out j (by omega))
          clear hxy
          go_wp2
          go_roundg (n - (k + 1))
          case measure => omega
          case rel => exact ⟨k + 1, by go_num, by omega, by omega, HB2, HE2⟩
        · have hq : (X != Y) = true := by simpa using hxy
          have HF := Lib.hid (show R = false from by
            rw [← HR.out]
            refine beq_eq_false_iff_ne.2 (fun e => hxy ?_)
            exact Option.some.inj (HXY.out.1.symm.trans ((congrArg (fun t : List Int => t[k]?) e).trans HXY.out.2)))
          clear hxy
          go_wp2
          go_ret
          rw [HF.out]
          exact ⟨rfl, HB2.out⟩
      · obtain rfl : k = n := by omega
        have HT := Lib.hid (show R = true from by
          rw [← HR.out, list_beq_at (a := a) (b := b) (by rw [HN.out.1, HN.out.2]) (fun j hj => HE.out j (by have := HN.out.1; omega))]
          simp)
        go_wp2
        go_ret
        rw [HT.out]
        exact ⟨rfl, HBr.out⟩
  · have hne : ((n : Int) != (m : Int)) = true := by simp; omega
    have HF := Lib.hid (show R = false from by
      rw [← HR.out]
      exact beq_eq_false_iff_ne.2 (fun e => hnm (by rw [← HN.out.1, ← HN.out.2, e])))
    go_enter Tryd.func11, Tryd.ntmps11
    go_wp2
    go_ret
    rw [HF.out]
    exact ⟨rfl, HB.out⟩
end Go.Proofs.YtcplegelppfdeaaDoor
