/-
  Layer 7's document: where a span lies, and whether it meets others.
-/
import Derived.Test.YtcilnbkmaoneaaaCheck
set_option linter.unusedSimpArgs false
set_option linter.unusedVariables false
namespace Go.Proofs.Ytcilnbkmaoneaaa
open Go.RowKit Go.PlainAid

theorem lies_ways (f t b : Int) (s : Bool) : liesB ⟨f, t, b⟩ s = if f < 0 ∨ t < f then false else (decide (t ≤ 32767) || (!s && (decide (49152 ≤ f) && decide (t ≤ 65535)))) := by
  unfold liesB
  dsimp only
  by_cases h1 : f < 0 ∨ t < f
  · rw [if_pos h1]
    rcases h1 with h | h
    · have e1 : decide (0 ≤ f) = false := decide_eq_false (by omega)
      have e2 : decide (49152 ≤ f) = false := decide_eq_false (by omega)
      rw [e1, e2]; cases decide (f ≤ t) <;> rfl
    · rw [decide_eq_false (by omega)]; rfl
  · rw [if_neg h1, decide_eq_true (by omega), decide_eq_true (show 0 ≤ f by omega)]
    have e : decide (t < 65536) = decide (t ≤ 65535) := decide_eq_decide.2 (by omega)
    rw [e]
    cases decide (t ≤ 32767) <;> cases decide (49152 ≤ f) <;> cases decide (t ≤ 65535) <;> cases s <;> rfl
set_option maxRecDepth 100000 in
set_option maxHeartbeats 1000000 in
theorem liesr_c (f t b : Int) (rom : Bool) (w : World) : Calls Try.prog 22 #[.agg #[.int .i64 f, .int .i64 t, .int .i64 b], .bool rom] w fun e w' => e = .returned (.bool (liesB ⟨f, t, b⟩ (!rom))) ∧ Below w.heap.size w w' := by
  rw [lies_ways, Bool.not_not]
  by_cases h0 : f < 0
  · rw [if_pos (.inl h0)]
    go_enter Try.func22, Try.ntmps22
    go_wp2
    go_ret
    exact ⟨rfl, by go_grown⟩
  · by_cases h1 : t < f
    · rw [if_pos (.inr h1)]
      go_enter Try.func22, Try.ntmps22
      go_wp2
      go_ret
      exact ⟨rfl, by go_grown⟩
    · rw [if_neg (by omega)]
      by_cases h2 : t ≤ 32767
      · rw [decide_eq_true h2]
        go_enter Try.func22, Try.ntmps22
        go_wp2
        go_ret
        exact ⟨rfl, by go_grown⟩
      · rw [decide_eq_false h2]
        cases rom
        · go_enter Try.func22, Try.ntmps22
          go_wp2
          go_ret
          exact ⟨rfl, by go_grown⟩
        · by_cases h3 : 49152 ≤ f
          · rw [decide_eq_true h3]
            go_enter Try.func22, Try.ntmps22
            go_wp2
            go_ret
            exact ⟨rfl, by go_grown⟩
          · rw [decide_eq_false h3]
            go_enter Try.func22, Try.ntmps22
            go_wp2
            go_ret
            exact ⟨rfl, by go_grown⟩
set_option maxRecDepth 100000 in
set_option maxHeartbeats 1000000 in
theorem meets_c (f t b : Int) (l : List Sp) (hl : l.length ≤ 100000) (v : Value) (w : World) (hv : HoldsD w v l) :
    Calls Try.prog 32 #[.agg #[.int .i64 f, .int .i64 t, .int .i64 b], v] w fun e w' => e = .returned (.bool (l.any (meetB ⟨f, t, b⟩))) ∧ Below w.heap.size w w' := by
  obtain ⟨R, hR⟩ : ∃ R, l.any (meetB ⟨f, t, b⟩) = R := ⟨_, rfl⟩
  rw [hR]
  obtain ⟨a1, c1, rfl⟩ := hv.form
  obtain ⟨n, hn⟩ : ∃ n, l.length = n := ⟨_, rfl⟩
  rw [hn] at hv ⊢
  have hn0 : n ≤ 100000 := by omega
  have HV := Lib.hid hv
  have HR := Lib.hid hR
  have HN := Lib.hid hn
  clear hv hR hn hl
  go_enter Try.func32, Try.ntmps32
  go_wp2
  go_loopg [5] n (fun kx s5 wr => ∃ (k : Nat), s5 = .int .i64 k ∧ k ≤ n ∧ n - k ≤ kx ∧ Hid ((l.drop k).any (meetB ⟨f, t, b⟩) = R) ∧ wr.cell? ⟨w.heap.size, 0, none⟩ = some (.int .i64 f) ∧ wr.cell? ⟨w.heap.size, 1, none⟩ = some (.int .i64 t) ∧ Below w.heap.size w wr)
  case atStart => exact ⟨0, by go_num, by omega, by omega, Lib.hid (by rw [List.drop_zero]; exact HR.out), by go_simp, by go_simp, by go_grown⟩
  case round =>
    obtain ⟨k, rfl, hk, hkx, HK, hc0, hc1, hB⟩ := hrel
    by_cases hlt : k < n
    · have hin : (0 : Int) ≤ (k : Int) ∧ (k : Int) < (n : Int) := by omega
      have hk1 : k < l.length := by have := HN.out; omega
      obtain ⟨g1, o1, d1, e1, _, c3⟩ := HV.out.some (by omega)
      obtain ⟨rfl, n1, rfl⟩ := Value.slice.inj e1
      clear e1 n1
      obtain ⟨x0, x1, x2⟩ := get3d c3 (List.getElem?_eq_getElem hk1)
      have hst := HK.out
      rw [List.drop_eq_getElem_cons hk1, List.any_cons] at hst
      clear c3 HK
      generalize l[k] = x at *
      clear hk1
      obtain ⟨xf, xt, xb⟩ := x
      dsimp only at x0 x1 x2
      have x0 := kc hB x0
      have x1 := kc hB x1
      have HST := Lib.hid hst
      clear hst x2
      have hx_0 := x0
      have hx_1 := x1
      have hp_0 := hc0
      have hp_1 := hc1
      clear x0 x1 hc0 hc1
      by_cases d1 : f ≤ xt
      · by_cases d2 : xf ≤ t
        · have HF := Lib.hid (show R = true from by rw [← HST.out]; unfold meetB; simp [d1, d2])
          go_wp2_with fail
          refine wp_region_plan (fun w' => w'.cell? ⟨g1, o1 + k * 3, none⟩ = some (.int .i64 xf) ∧ w'.cell? ⟨g1, o1 + k * 3 + 1, none⟩ = some (.int .i64 xt) ∧ w'.cell? ⟨w.heap.size, 0, none⟩ = some (.int .i64 f) ∧ w'.cell? ⟨w.heap.size, 1, none⟩ = some (.int .i64 t) ∧ Below w.heap.size w w') (by kernel_rfl) (by kernel_rfl) (by kernel_rfl) ?_ ?_
          · (try dsimp only)
            refine ⟨?_, ?_, ?_, ?_, ?_⟩ <;> first | (go_simp; done) | (simp [*]; done) | go_grown
          repeat (first
            | (refine Plan.val (v := ?_) ?_ ?_ ?_; rotate_left; (· rfl); (· (intro W hSw; (try dsimp only at hSw); go_simp; all_goals (first | (with_reducible rfl) | (constructor <;> (with_reducible rfl)) | (rw [if_neg (by omega)]; done) | (rw [if_neg (by omega)]; with_reducible rfl)))); (try simp only [Act.put, List.setIfInBounds_toArray, List.set_cons_zero, List.set_cons_succ]))
            | (refine Plan.no ?_ ?_; (· rfl); (try simp only [Act.put, List.setIfInBounds_toArray, List.set_cons_zero, List.set_cons_succ])))
          refine Plan.done ?_
          intro u T
          (try dsimp only at T)
          obtain ⟨hx_0, hx_1, hp_0, hp_1, hB⟩ := T
          have hsz := hB.size
          have hlx := klt hx_0
          have hlp := klt hp_0
          obtain ⟨hnx0, hnx1, hkx1, hnx2, hkx2⟩ := ap0 hlx
          obtain ⟨hnp0, hnp1, hkp1, hnp2, hkp2⟩ := ap0 hlp
          go_wp2
          go_ret
          exact ⟨ret_bool HF.out.symm, hB⟩
        · have HF := Lib.hid (show (l.drop (k + 1)).any (meetB ⟨f, t, b⟩) = R from by rw [← HST.out]; unfold meetB; simp [d1, d2])
          go_wp2_with fail
          refine wp_region_plan (fun w' => w'.cell? ⟨g1, o1 + k * 3, none⟩ = some (.int .i64 xf) ∧ w'.cell? ⟨g1, o1 + k * 3 + 1, none⟩ = some (.int .i64 xt) ∧ w'.cell? ⟨w.heap.size, 0, none⟩ = some (.int .i64 f) ∧ w'.cell? ⟨w.heap.size, 1, none⟩ = some (.int .i64 t) ∧ Below w.heap.size w w') (by kernel_rfl) (by kernel_rfl) (by kernel_rfl) ?_ ?_
          · (try dsimp only)
            refine ⟨?_, ?_, ?_, ?_, ?_⟩ <;> first | (go_simp; done) | (simp [*]; done) | go_grown
          repeat (first
            | (refine Plan.val (v := ?_) ?_ ?_ ?_; rotate_left; (· rfl); (· (intro W hSw; (try dsimp only at hSw); go_simp; all_goals (first | (with_reducible rfl) | (constructor <;> (with_reducible rfl)) | (rw [if_neg (by omega)]; done) | (rw [if_neg (by omega)]; with_reducible rfl)))); (try simp only [Act.put, List.setIfInBounds_toArray, List.set_cons_zero, List.set_cons_succ]))
            | (refine Plan.no ?_ ?_; (· rfl); (try simp only [Act.put, List.setIfInBounds_toArray, List.set_cons_zero, List.set_cons_succ])))
          refine Plan.done ?_
          intro u2 T
          (try dsimp only at T)
          obtain ⟨hx_0, hx_1, hp_0, hp_1, hB⟩ := T
          have hsz := hB.size
          have hlx := klt hx_0
          have hlp := klt hp_0
          obtain ⟨hnx0, hnx1, hkx1, hnx2, hkx2⟩ := ap0 hlx
          obtain ⟨hnp0, hnp1, hkp1, hnp2, hkp2⟩ := ap0 hlp
          go_wp2
          go_roundg (n - (k + 1))
          case measure => omega
          case rel => exact ⟨k + 1, by go_num, by omega, by omega, HF, hp_0, hp_1, hB⟩
      · have HF := Lib.hid (show (l.drop (k + 1)).any (meetB ⟨f, t, b⟩) = R from by rw [← HST.out]; unfold meetB; simp [d1])
        have d1' : xt < f := by omega
        have d1'' : decide (f ≤ xt) = false := decide_eq_false d1
        go_wp2_with fail
        refine wp_region_plan (fun w' => w'.cell? ⟨g1, o1 + k * 3, none⟩ = some (.int .i64 xf) ∧ w'.cell? ⟨g1, o1 + k * 3 + 1, none⟩ = some (.int .i64 xt) ∧ w'.cell? ⟨w.heap.size, 0, none⟩ = some (.int .i64 f) ∧ w'.cell? ⟨w.heap.size, 1, none⟩ = some (.int .i64 t) ∧ Below w.heap.size w w') (by kernel_rfl) (by kernel_rfl) (by kernel_rfl) ?_ ?_
        · (try dsimp only)
          refine ⟨?_, ?_, ?_, ?_, ?_⟩ <;> first | (go_simp; done) | (simp [*]; done) | go_grown
        repeat (first
          | (refine Plan.val (v := ?_) ?_ ?_ ?_; rotate_left; (· rfl); (· (intro W hSw; (try dsimp only at hSw); go_simp; all_goals (first | (with_reducible rfl) | (constructor <;> (with_reducible rfl)) | (rw [if_neg (by omega)]; done) | (rw [if_neg (by omega)]; with_reducible rfl)))); (try simp only [Act.put, List.setIfInBounds_toArray, List.set_cons_zero, List.set_cons_succ]))
          | (refine Plan.no ?_ ?_; (· rfl); (try simp only [Act.put, List.setIfInBounds_toArray, List.set_cons_zero, List.set_cons_succ])))
        refine Plan.done ?_
        intro u3 T
        (try dsimp only at T)
        obtain ⟨hx_0, hx_1, hp_0, hp_1, hB⟩ := T
        have hsz := hB.size
        have hlx := klt hx_0
        have hlp := klt hp_0
        obtain ⟨hnx0, hnx1, hkx1, hnx2, hkx2⟩ := ap0 hlx
        obtain ⟨hnp0, hnp1, hkp1, hnp2, hkp2⟩ := ap0 hlp
        go_wp2
        go_roundg (n - (k + 1))
        case measure => omega
        case rel => exact ⟨k + 1, by go_num, by omega, by omega, HF, hp_0, hp_1, hB⟩
    · have HF := Lib.hid (show R = false from by rw [← HK.out, List.drop_eq_nil_of_le (by have := HN.out; omega)]; rfl)
      go_wp2
      go_ret
      exact ⟨ret_bool HF.out.symm, hB⟩
end Go.Proofs.Ytcilnbkmaoneaaa
