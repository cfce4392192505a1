/-
  The document's timer: May, IRQ, Read, Write, Tick; a timer as its own.
-/
import Derived.Test.YtcpegglfgfgekaaBase
import Derived.Test.YtcpegglfgfgekaaTm10
set_option linter.unusedSimpArgs false
set_option linter.unusedVariables false
namespace Go.Proofs.Ytcpegglfgfgekaa
open Go.RowKit Go.PlainAid

set_option maxRecDepth 100000 in
theorem mayd_c (x : Tm) (w : World) : Calls Try.prog 10 #[.agg #[.int .i64 x.l, .int .i64 x.c, .bool x.r, .bool x.a, .bool x.s, .bool x.g]] w fun e w' => e = .returned (.bool (mayT x)) ∧ Below w.heap.size w w' := by
  obtain ⟨l, c, r, a, s, g⟩ := x
  unfold mayT
  dsimp only
  by_cases h1 : 0 ≤ l
  case neg =>
    have e : decide (0 ≤ l) = false := by simpa using h1
    rw [e, Bool.false_and, Bool.false_and, Bool.false_and]
    go_enter Try.func10, Try.ntmps10
    go_wp2
    go_ret
    exact ⟨rfl, by go_grown⟩
  by_cases h2 : l < 65536
  case neg =>
    have e : decide (l < 65536) = false := by simpa using h2
    rw [e, Bool.and_false, Bool.false_and, Bool.false_and]
    go_enter Try.func10, Try.ntmps10
    go_wp2
    go_ret
    exact ⟨rfl, by go_grown⟩
  by_cases h3 : 0 ≤ c
  case neg =>
    have e : decide (0 ≤ c) = false := by simpa using h3
    rw [e, Bool.and_false, Bool.false_and]
    go_enter Try.func10, Try.ntmps10
    go_wp2
    go_ret
    exact ⟨rfl, by go_grown⟩
  rw [show decide (0 ≤ l) = true by simpa using h1, show decide (l < 65536) = true by simpa using h2, show decide (0 ≤ c) = true by simpa using h3, Bool.true_and, Bool.true_and, Bool.true_and]
  go_enter Try.func10, Try.ntmps10
  go_wp2
  all_goals
    go_ret
    exact ⟨by simp [*], by go_grown⟩
set_option maxRecDepth 100000 in
theorem irqd_c (x : Tm) (w : World) : Calls Try.prog 14 #[.agg #[.int .i64 x.l, .int .i64 x.c, .bool x.r, .bool x.a, .bool x.s, .bool x.g]] w fun e w' => e = .returned (.bool (x.g && x.s)) ∧ Below w.heap.size w w' := by
  obtain ⟨l, c, r, a, s, g⟩ := x
  dsimp only
  cases g
  all_goals
    go_enter Try.func14, Try.ntmps14
    go_wp2
    go_ret
    exact ⟨rfl, by go_grown⟩
set_option maxRecDepth 100000 in
theorem readd_c (x : Tm) (reg : Int) (hm : x.May) (w : World) : Calls Try.prog 16 #[.agg #[.int .i64 x.l, .int .i64 x.c, .bool x.r, .bool x.a, .bool x.s, .bool x.g], .int .i64 reg] w fun e w' => e = .returned (.int .i64 (readT x reg)) ∧ Below w.heap.size w w' := by
  obtain ⟨l, c, r, a, s, g⟩ := x
  obtain ⟨h1, h2⟩ := hm
  dsimp only at h1 h2 ⊢
  rcases reg_cases reg with rfl | rfl | rfl | rfl | ⟨n0, n1, n2, n3⟩
  · go_enter Try.func16, Try.ntmps16
    go_wp2
    go_ret
    exact ⟨by first | rfl | (simp [readT]; done), by go_grown⟩
  · go_enter Try.func16, Try.ntmps16
    go_wp2
    go_ret
    exact ⟨by first | rfl | (simp [readT]; done), by go_grown⟩
  · cases r <;> cases a <;> cases s
    all_goals
      go_enter Try.func16, Try.ntmps16
      go_wp2
      go_ret
      exact ⟨by first | rfl | (simp [readT]; done), by go_grown⟩
  · cases g
    all_goals
      go_enter Try.func16, Try.ntmps16
      go_wp2
      go_ret
      exact ⟨by first | rfl | (simp [readT]; done), by go_grown⟩
  · have e : readT ⟨l, c, r, a, s, g⟩ reg = 0 := by unfold readT; rw [if_neg n0, if_neg n1, if_neg n2, if_neg n3]
    rw [e]
    have d0 : (reg == 0) = false := by simpa using n0
    have d1 : (reg == 1) = false := by simpa using n1
    have d2 : (reg == 2) = false := by simpa using n2
    have d3 : (reg == 3) = false := by simpa using n3
    clear n0 n1 n2 n3 e
    go_enter Try.func16, Try.ntmps16
    go_wp2
    go_ret
    exact ⟨rfl, by go_grown⟩
set_option maxRecDepth 100000 in
theorem tickd_c (x : Tm) (hm : x.May) (w : World) : Calls Try.prog 19 #[.agg #[.int .i64 x.l, .int .i64 x.c, .bool x.r, .bool x.a, .bool x.s, .bool x.g]] w
    fun e w' => e = .returned (.agg #[.int .i64 (tickT x).l, .int .i64 (tickT x).c, .bool (tickT x).r, .bool (tickT x).a, .bool (tickT x).s, .bool (tickT x).g]) ∧ Below w.heap.size w w' := by
  obtain ⟨l, c, r, a, s, g⟩ := x
  obtain ⟨h1, h2⟩ := hm
  dsimp only at h1 h2 ⊢
  cases r
  · go_enter Try.func19, Try.ntmps19
    go_wp2
    refine bodyPost_ret (v := .agg #[.int .i64 l, .int .i64 c, .bool false, .bool a, .bool s, .bool g]) (by simp [results, Try.results19, go_sem] <;> first | done | rfl | exact dec_eq Iff.rfl) rfl ⟨rfl, by go_grown⟩
  · by_cases h : 0 < c
    · have e : tickT ⟨l, c, true, a, s, g⟩ = ⟨l, c - 1, true, a, s, g⟩ := by unfold tickT; rw [if_pos rfl, if_pos h]
      rw [e]
      dsimp only
      go_enter Try.func19, Try.ntmps19
      go_wp2
      refine bodyPost_ret (v := .agg #[.int .i64 l, .int .i64 (c - 1), .bool true, .bool a, .bool s, .bool g]) (by simp [results, Try.results19, go_sem] <;> first | done | rfl | exact dec_eq Iff.rfl) rfl ⟨rfl, by go_grown⟩
    · cases a
      · have e : tickT ⟨l, c, true, false, s, g⟩ = ⟨l, c, false, false, s, true⟩ := by unfold tickT; rw [if_pos rfl, if_neg h, if_neg (by simp)]
        rw [e]
        dsimp only
        go_enter Try.func19, Try.ntmps19
        go_wp2
        refine bodyPost_ret (v := .agg #[.int .i64 l, .int .i64 c, .bool false, .bool false, .bool s, .bool true]) (by simp [results, Try.results19, go_sem] <;> first | done | rfl | exact dec_eq Iff.rfl) rfl ⟨rfl, by go_grown⟩
      · have e : tickT ⟨l, c, true, true, s, g⟩ = ⟨l, l, true, true, s, true⟩ := by unfold tickT; rw [if_pos rfl, if_neg h, if_pos rfl]
        rw [e]
        dsimp only
        go_enter Try.func19, Try.ntmps19
        go_wp2
        refine bodyPost_ret (v := .agg #[.int .i64 l, .int .i64 l, .bool true, .bool true, .bool s, .bool true]) (by simp [results, Try.results19, go_sem] <;> first | done | rfl | exact dec_eq Iff.rfl) rfl ⟨rfl, by go_grown⟩
end Go.Proofs.Ytcpegglfgfgekaa
