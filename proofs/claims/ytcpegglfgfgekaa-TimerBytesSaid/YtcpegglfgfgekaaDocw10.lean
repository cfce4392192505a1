/-
  The document's timer: Write; the law's Plain.
-/
import Derived.Test.YtcpegglfgfgekaaDoc10
set_option linter.unusedSimpArgs false
set_option linter.unusedVariables false
namespace Go.Proofs.Ytcpegglfgfgekaa
open Go.RowKit Go.PlainAid

set_option maxRecDepth 100000 in
theorem plain10_c (x : Tm) (w : World) : Calls Try.prog 9 #[.agg #[.int .i64 x.l, .int .i64 x.c, .bool x.r, .bool x.a, .bool x.s, .bool x.g]] w
    fun e w' => e = .returned (.agg #[.int .i64 x.l, .int .i64 x.c, .bool x.r, .bool x.a, .bool x.s, .bool x.g]) ∧ Below w.heap.size w w' := by
  go_enter Try.func9, Try.ntmps9
  go_wp2
  refine bodyPost_ret (v := .agg #[.int .i64 x.l, .int .i64 x.c, .bool x.r, .bool x.a, .bool x.s, .bool x.g]) (by simp [results, Try.results9, go_sem] <;> first | done | rfl | exact dec_eq Iff.rfl) rfl ⟨rfl, by go_grown⟩
theorem ret_agg6 {l c : Int} {r a s g : Bool} {y : Tm} (h : y = ⟨l, c, r, a, s, g⟩) : Ending.returned (.agg #[.int .i64 l, .int .i64 c, .bool r, .bool a, .bool s, .bool g]) = .returned (.agg #[.int .i64 y.l, .int .i64 y.c, .bool y.r, .bool y.a, .bool y.s, .bool y.g]) := by rw [h]
set_option maxRecDepth 100000 in
set_option maxHeartbeats 2000000 in
theorem writed_c (x : Tm) (reg v : Int) (hm : x.May) (hv : 0 ≤ v ∧ v ≤ 255) (w : World) : Calls Try.prog 17 #[.agg #[.int .i64 x.l, .int .i64 x.c, .bool x.r, .bool x.a, .bool x.s, .bool x.g], .int .i64 reg, .int .i64 v] w
    fun e w' => e = .returned (.agg #[.int .i64 (writeT x reg v).l, .int .i64 (writeT x reg v).c, .bool (writeT x reg v).r, .bool (writeT x reg v).a, .bool (writeT x reg v).s, .bool (writeT x reg v).g]) ∧ Below w.heap.size w w' := by
  obtain ⟨l, c, r, a, s, g⟩ := x
  obtain ⟨h1, h2⟩ := hm
  dsimp only at h1 h2 ⊢
  rcases reg_cases reg with rfl | rfl | rfl | rfl | ⟨n0, n1, n2, n3⟩
  · have e : writeT ⟨l, c, r, a, s, g⟩ 0 v = ⟨l / 256 * 256 + v, c, r, a, s, g⟩ := rfl
    rw [e]
    dsimp only
    go_enter Try.func17, Try.ntmps17
    go_wp2
    refine bodyPost_ret (v := .agg #[.int .i64 (l / 256 * 256 + v), .int .i64 c, .bool r, .bool a, .bool s, .bool g]) (by simp [results, Try.results17, go_sem] <;> first | done | rfl | exact dec_eq Iff.rfl) rfl ⟨rfl, by go_grown⟩
  · have e : writeT ⟨l, c, r, a, s, g⟩ 1 v = ⟨l % 256 + 256 * v, c, r, a, s, g⟩ := rfl
    rw [e]
    dsimp only
    obtain ⟨N, hN⟩ : ∃ N, l % 256 + 256 * v = N := ⟨_, rfl⟩
    rw [hN]
    go_enter Try.func17, Try.ntmps17
    go_wp2
    refine bodyPost_ret (v := .agg #[.int .i64 N, .int .i64 c, .bool r, .bool a, .bool s, .bool g]) (by simp [results, Try.results17, go_sem] <;> first | done | rfl | exact dec_eq Iff.rfl) rfl ⟨rfl, by go_grown⟩
  · have e : writeT ⟨l, c, r, a, s, g⟩ 2 v = ctlT ⟨l, c, r, a, s, g⟩ v := rfl
    rw [e]
    unfold ctlT
    dsimp only
    have e1 : (v % 2 == 1) = onT v 1 := by unfold onT; rw [Int.ediv_one]
    have e2 : (v / 2 % 2 == 1) = onT v 2 := rfl
    have e4 : (v / 4 % 2 == 1) = onT v 4 := rfl
    generalize onT v 1 = R at *
    generalize onT v 2 = A at *
    generalize onT v 4 = S at *
    cases R
    · go_enter Try.func17, Try.ntmps17
      go_wp2
      refine bodyPost_ret (v := .agg #[.int .i64 l, .int .i64 c, .bool false, .bool A, .bool S, .bool g]) (by simp [results, Try.results17, go_sem] <;> first | done | rfl | exact dec_eq Iff.rfl) rfl ⟨rfl, by go_grown⟩
    · go_enter Try.func17, Try.ntmps17
      go_wp2
      refine bodyPost_ret (v := .agg #[.int .i64 l, .int .i64 l, .bool true, .bool A, .bool S, .bool g]) (by simp [results, Try.results17, go_sem] <;> first | done | rfl | exact dec_eq Iff.rfl) rfl ⟨rfl, by go_grown⟩
  · have e : writeT ⟨l, c, r, a, s, g⟩ 3 v = ⟨l, c, r, a, s, false⟩ := rfl
    rw [e]
    dsimp only
    go_enter Try.func17, Try.ntmps17
    go_wp2
    refine bodyPost_ret (v := .agg #[.int .i64 l, .int .i64 c, .bool r, .bool a, .bool s, .bool false]) (by simp [results, Try.results17, go_sem] <;> first | done | rfl | exact dec_eq Iff.rfl) rfl ⟨rfl, by go_grown⟩
  · have e : writeT ⟨l, c, r, a, s, g⟩ reg v = ⟨l, c, r, a, s, g⟩ := by unfold writeT; rw [if_neg n0, if_neg n1, if_neg n2, if_neg n3]
    rw [e]
    dsimp only
    have d0 : (reg == 0) = false := by simpa using n0
    have d1 : (reg == 1) = false := by simpa using n1
    have d2 : (reg == 2) = false := by simpa using n2
    have d3 : (reg == 3) = false := by simpa using n3
    clear n0 n1 n2 n3 e
    go_enter Try.func17, Try.ntmps17
    go_wp2
    refine bodyPost_ret (v := .agg #[.int .i64 l, .int .i64 c, .bool r, .bool a, .bool s, .bool g]) (by simp [results, Try.results17, go_sem] <;> first | done | rfl | exact dec_eq Iff.rfl) rfl ⟨rfl, by go_grown⟩
end Go.Proofs.Ytcpegglfgfgekaa
