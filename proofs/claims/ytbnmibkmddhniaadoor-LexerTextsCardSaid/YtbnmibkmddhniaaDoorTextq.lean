/-
  Layer 6: a token's text, by the program; by the document.
-/
import Derived.Test.YtbnmibkmddhniaaDoorTextp
import Derived.Test.YtbnmibkmddhniaaDoorRef1
set_option linter.unusedSimpArgs false
set_option linter.unusedVariables false
namespace Go.Proofs.YtbnmibkmddhniaaDoor
open Go.RowKit Go.PlainAid

/-- The ways that a token's text comes to. -/
theorem text_ways (k : Int) (t : List UInt8) (n : Int) : (k = 1 ∧ wordB t = true ∧ textE k t n = 0 ∧ textL k t n = t) ∨ (k = 1 ∧ wordB t = false ∧ textE k t n = 11 ∧ textL k t n = []) ∨
    (k = 2 ∧ n < 0 ∧ textE k t n = 10 ∧ textL k t n = []) ∨ (k = 2 ∧ ¬ n < 0 ∧ 65535 < n ∧ textE k t n = 10 ∧ textL k t n = []) ∨ (k = 2 ∧ 0 ≤ n ∧ n ≤ 65535 ∧ textE k t n = 0 ∧ textL k t n = 36 :: lowsL n.toNat (widthN n)) ∨
    (k = 3 ∧ textE k t n = 0 ∧ textL k t n = [46, 46]) ∨ (k = 4 ∧ textE k t n = 0 ∧ textL k t n = [10]) ∨ (k ≠ 1 ∧ k ≠ 2 ∧ k ≠ 3 ∧ k ≠ 4 ∧ textE k t n = 15 ∧ textL k t n = []) := by
  unfold textE textL
  by_cases k1 : k = 1
  · rw [if_pos k1, if_pos k1]
    cases h : wordB t
    · right; left; exact ⟨k1, rfl, rfl, rfl⟩
    · left; exact ⟨k1, rfl, rfl, rfl⟩
  · rw [if_neg k1, if_neg k1]
    by_cases k2 : k = 2
    · rw [if_pos k2, if_pos k2]
      by_cases h0 : n < 0
      · rw [if_pos (.inl h0), if_pos (.inl h0)]
        right; right; left; exact ⟨k2, h0, rfl, rfl⟩
      · by_cases h1 : 65535 < n
        · rw [if_pos (.inr h1), if_pos (.inr h1)]
          right; right; right; left; exact ⟨k2, h0, h1, rfl, rfl⟩
        · rw [if_neg (by omega), if_neg (by omega)]
          right; right; right; right; left; exact ⟨k2, by omega, by omega, rfl, rfl⟩
    · rw [if_neg k2, if_neg k2]
      by_cases k3 : k = 3
      · rw [if_pos (.inl k3), if_pos k3]
        right; right; right; right; right; left; exact ⟨k3, rfl, rfl⟩
      · by_cases k4 : k = 4
        · rw [if_pos (.inr k4), if_neg k3, if_pos k4]
          right; right; right; right; right; right; left; exact ⟨k4, rfl, rfl⟩
        · rw [if_neg (by omega), if_neg k3, if_neg k4]
          right; right; right; right; right; right; right; exact ⟨k1, k2, k3, k4, rfl, rfl⟩
set_option maxRecDepth 100000 in
set_option maxHeartbeats 2000000 in
theorem textp_c (k : Int) (t : List UInt8) (n li co : Int) (ht : t.length ≤ 100) (w : World) (hT : w.cell? ⟨5, 15, none⟩ = some (.int .u8 4)) :
    Calls Tryd.prog 11 #[.agg #[.int .i64 k, .string (txB t), .int .i64 n, .int .i64 li, .int .i64 co]] w fun e w' => e = .returned (.tuple #[.string (txB (textL k t n)), .int .i64 (textE k t n)]) ∧ Below w.heap.size w w' := by
  have HW := Lib.hid (isWord_c t ht)
  rcases text_ways k t n with ⟨rfl, h1, e1, e2⟩ | ⟨rfl, h1, e1, e2⟩ | ⟨rfl, h1, e1, e2⟩ | ⟨rfl, h0, h1, e1, e2⟩ | ⟨rfl, h0, h1, e1, e2⟩ | ⟨rfl, e1, e2⟩ | ⟨rfl, e1, e2⟩ | ⟨h1, h2, h3, h4, e1, e2⟩
  · rw [e1, e2]
    rw [h1] at HW
    generalize txB t = S at *
    clear e1 e2 h1 ht
    go_enter Tryd.func11, Tryd.ntmps11
    go_wp2_with fail
    ((with_reducible refine (HW.out _).mono ?_); rintro _ u1 ⟨rfl, hb⟩)
    have T : u1.cell? ⟨w.heap.size, 0, none⟩ = some (.int .i64 1) ∧ u1.cell? ⟨w.heap.size, 1, none⟩ = some (.string S) ∧ u1.cell? ⟨w.heap.size, 2, none⟩ = some (.int .i64 n) ∧ u1.cell? ⟨w.heap.size, 3, none⟩ = some (.int .i64 li) ∧ u1.cell? ⟨w.heap.size, 4, none⟩ = some (.int .i64 co) := by
        refine ⟨?_, ?_, ?_, ?_, ?_⟩ <;> refine kc hb ?_ <;> (go_simp; first | done | rfl)
    have hz := hb.size
    (try simp only [World.size_alloc, World.size_setCell, World.size_drew] at hz)
    have hlx' : w.heap.size < u1.heap.size := by omega
    have hB' : Below w.heap.size w u1 := by
        refine kb ?_ hb
        go_grown
    clear hb hz
    obtain ⟨hx_0, hx_1, hx_2, hx_3, hx_4⟩ := T
    have hlx := hlx'; clear hlx'
    have hnx0 : ¬ (w.heap.size = u1.heap.size) := by omega
    have hnx1 : ¬ (w.heap.size = u1.heap.size + 1) := by omega
    have hkx1 : w.heap.size < u1.heap.size + 1 := by omega
    have hnx2 : ¬ (w.heap.size = u1.heap.size + 1 + 1) := by omega
    have hkx2 : w.heap.size < u1.heap.size + 1 + 1 := by omega
    have hB := hB'; clear hB'
    have hsz := hB.size
    go_wp2
    refine bodyPost_ret (v := .tuple #[.string S, .int .i64 0]) (by simp [results, Tryd.results11, go_sem]) rfl ⟨rfl, by go_grown⟩
  · rw [e1, e2]
    rw [h1] at HW
    generalize txB t = S at *
    clear e1 e2 h1 ht
    go_enter Tryd.func11, Tryd.ntmps11
    go_wp2_with fail
    ((with_reducible refine (HW.out _).mono ?_); rintro _ u1 ⟨rfl, hb⟩)
    have T : u1.cell? ⟨w.heap.size, 0, none⟩ = some (.int .i64 1) ∧ u1.cell? ⟨w.heap.size, 1, none⟩ = some (.string S) ∧ u1.cell? ⟨w.heap.size, 2, none⟩ = some (.int .i64 n) ∧ u1.cell? ⟨w.heap.size, 3, none⟩ = some (.int .i64 li) ∧ u1.cell? ⟨w.heap.size, 4, none⟩ = some (.int .i64 co) := by
        refine ⟨?_, ?_, ?_, ?_, ?_⟩ <;> refine kc hb ?_ <;> (go_simp; first | done | rfl)
    have hz := hb.size
    (try simp only [World.size_alloc, World.size_setCell, World.size_drew] at hz)
    have hlx' : w.heap.size < u1.heap.size := by omega
    have hB' : Below w.heap.size w u1 := by
        refine kb ?_ hb
        go_grown
    clear hb hz
    obtain ⟨hx_0, hx_1, hx_2, hx_3, hx_4⟩ := T
    have hlx := hlx'; clear hlx'
    have hnx0 : ¬ (w.heap.size = u1.heap.size) := by omega
    have hnx1 : ¬ (w.heap.size = u1.heap.size + 1) := by omega
    have hkx1 : w.heap.size < u1.heap.size + 1 := by omega
    have hnx2 : ¬ (w.heap.size = u1.heap.size + 1 + 1) := by omega
    have hkx2 : w.heap.size < u1.heap.size + 1 + 1 := by omega
    have hB := hB'; clear hB'
    have hsz := hB.size
    go_wp2
    refine bodyPost_ret (v := .tuple #[.string ⟨#[]⟩, .int .i64 11]) (by simp [results, Tryd.results11, go_sem]) rfl ⟨rfl, by go_grown⟩
  · rw [e1, e2]
    have d1 : decide (n < 0) = true := decide_eq_true h1
    generalize txB t = S at *
    clear e1 e2 h1 ht
    go_enter Tryd.func11, Tryd.ntmps11
    go_wp2
    refine bodyPost_ret (v := .tuple #[.string ⟨#[]⟩, .int .i64 10]) (by simp [results, Tryd.results11, go_sem]) rfl ⟨rfl, by go_grown⟩
  · rw [e1, e2]
    have d1 : decide (n < 0) = false := decide_eq_false h0
    have d2 : decide (65535 < n) = true := decide_eq_true h1
    generalize txB t = S at *
    clear e1 e2 h1 h0 ht
    go_enter Tryd.func11, Tryd.ntmps11
    go_wp2
    refine bodyPost_ret (v := .tuple #[.string ⟨#[]⟩, .int .i64 10]) (by simp [results, Tryd.results11, go_sem]) rfl ⟨rfl, by go_grown⟩
  · rw [e1, e2]
    have d1 : decide (n < 0) = false := decide_eq_false (by omega)
    have d2 : decide (65535 < n) = false := decide_eq_false (by omega)
    have HPn := Lib.hid (fun W h => printn_c n.toNat (by omega) W h)
    rw [Int.toNat_of_nonneg h0] at HPn
    generalize txB (36 :: lowsL n.toNat (widthN n)) = O at *
    generalize txB t = S at *
    clear e1 e2 h1 h0 ht
    go_enter Tryd.func11, Tryd.ntmps11
    go_wp2_with fail
    ((with_reducible refine (HPn.out _ (kc ((Below.refl _ w).alloc (Nat.le_refl _) _) hT)).mono ?_); rintro _ u1 ⟨rfl, hb⟩)
    have T : u1.cell? ⟨w.heap.size, 0, none⟩ = some (.int .i64 2) ∧ u1.cell? ⟨w.heap.size, 1, none⟩ = some (.string S) ∧ u1.cell? ⟨w.heap.size, 2, none⟩ = some (.int .i64 n) ∧ u1.cell? ⟨w.heap.size, 3, none⟩ = some (.int .i64 li) ∧ u1.cell? ⟨w.heap.size, 4, none⟩ = some (.int .i64 co) := by
        refine ⟨?_, ?_, ?_, ?_, ?_⟩ <;> refine kc hb ?_ <;> (go_simp; first | done | rfl)
    have hz := hb.size
    (try simp only [World.size_alloc, World.size_setCell, World.size_drew] at hz)
    have hlx' : w.heap.size < u1.heap.size := by omega
    have hB' : Below w.heap.size w u1 := by
        refine kb ?_ hb
        go_grown
    clear hb hz
    obtain ⟨hx_0, hx_1, hx_2, hx_3, hx_4⟩ := T
    have hlx := hlx'; clear hlx'
    have hnx0 : ¬ (w.heap.size = u1.heap.size) := by omega
    have hnx1 : ¬ (w.heap.size = u1.heap.size + 1) := by omega
    have hkx1 : w.heap.size < u1.heap.size + 1 := by omega
    have hnx2 : ¬ (w.heap.size = u1.heap.size + 1 + 1) := by omega
    have hkx2 : w.heap.size < u1.heap.size + 1 + 1 := by omega
    have hB := hB'; clear hB'
    have hsz := hB.size
    go_wp2
    refine bodyPost_ret (v := .tuple #[.string O, .int .i64 0]) (by simp [results, Tryd.results11, go_sem]) rfl ⟨rfl, by go_grown⟩
  · rw [e1, e2]
    generalize txB t = S at *
    clear e1 e2 ht
    go_enter Tryd.func11, Tryd.ntmps11
    go_wp2
    refine bodyPost_ret (v := .tuple #[.string ⟨#[46, 46]⟩, .int .i64 0]) (by simp [results, Tryd.results11, go_sem]) rfl ⟨rfl, by go_grown⟩
  · rw [e1, e2]
    generalize txB t = S at *
    clear e1 e2 ht
    go_enter Tryd.func11, Tryd.ntmps11
    go_wp2
    refine bodyPost_ret (v := .tuple #[.string ⟨#[10]⟩, .int .i64 0]) (by simp [results, Tryd.results11, go_sem]) rfl ⟨rfl, by go_grown⟩
  · rw [e1, e2]
    have d1 : (k == 1) = false := beq_eq_false_iff_ne.2 h1
    have d2 : (k == 2) = false := beq_eq_false_iff_ne.2 h2
    have d3 : (k == 3) = false := beq_eq_false_iff_ne.2 h3
    have d4 : (k == 4) = false := beq_eq_false_iff_ne.2 h4
    generalize txB t = S at *
    clear e1 e2 h1 h2 h3 h4 ht
    go_enter Tryd.func11, Tryd.ntmps11
    go_wp2
    refine bodyPost_ret (v := .tuple #[.string ⟨#[]⟩, .int .i64 15]) (by simp [results, Tryd.results11, go_sem]) rfl ⟨rfl, by go_grown⟩
end Go.Proofs.YtbnmibkmddhniaaDoor
