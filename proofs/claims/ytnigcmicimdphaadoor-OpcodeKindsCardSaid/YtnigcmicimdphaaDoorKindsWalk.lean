/-
  OpcodeKinds returns true: the walk.
-/
import Derived.Test.YtnigcmicimdphaaDoorCycp
import Derived.Test.YtnigcmicimdphaaDoorAwake4
import Derived.Test.YtnigcmicimdphaaDoorLenp
set_option linter.unusedSimpArgs false
set_option linter.unusedVariables false
namespace Go.Proofs.YtnigcmicimdphaaDoor
open Go.RowKit Go.PlainAid

set_option maxRecDepth 100000 in
set_option maxHeartbeats 2000000 in
theorem kinds_op (b : Nat) (hb : b < 256) (S : ByteArray) (M K V c : Int)
    (hO : ∀ w, Calls Tryd.prog 6 #[.int .u8 b] w fun e w' => e = .returned (.tuple #[.agg #[.string S, .int .i64 M, .int .i64 K], .int .i64 0]) ∧ Below w.heap.size w w')
    (hC : ∀ w, Laid w → Calls Tryd.prog 8 #[.int .u8 b] w fun e w' => e = .returned (.int .i64 V) ∧ Below w.heap.size w w')
    (q : ∀ W, (Instr.index 9 (.string S) (.int .i64 0)).run Tryd.prog W = .ok (.int .u8 c) W)
    (h : (K = 0 ∧ V = 2 ∧ M = 0) ∨ (K = 0 ∧ V = 2 ∧ M = 1) ∨ (K = 1 ∧ decide (2 ≤ M) = true ∧ decide (M ≤ 10) = true) ∨ (K = 2 ∧ c = 83 ∧ decide (3 ≤ M) = true ∧ decide (M ≤ 10) = true) ∨
      (K = 3 ∧ decide (5 ≤ V) = true ∧ M = 3) ∨ (K = 3 ∧ decide (5 ≤ V) = true ∧ M = 4) ∨ (K = 3 ∧ decide (5 ≤ V) = true ∧ M = 6) ∨ (K = 3 ∧ decide (5 ≤ V) = true ∧ M = 7) ∨
      (K = 4 ∧ M = 12 ∧ c = 66 ∧ (S.toList == [66, 82, 75]) = false) ∨ (K = 4 ∧ M = 0 ∧ c = 66 ∧ (S.toList == [66, 82, 75]) = true) ∨ (K = 4 ∧ M = 0 ∧ (c == 66) = false) ∨ (K = 4 ∧ M = 6 ∧ (c == 66) = false) ∨
      (K = 4 ∧ M = 11 ∧ (c == 66) = false ∧ (S.toList == [74, 77, 80]) = true))
    (w : World) (hL : Laid w) : Calls Tryd.prog 5 #[.int .u8 b] w (LawEnd w) := by
  have HO := Lib.hid hO
  have HC := Lib.hid hC
  have HL := Lib.hid hL
  clear hO hC hL
  rcases h with ⟨rfl, rfl, rfl⟩ | ⟨rfl, rfl, rfl⟩ | ⟨rfl, h1, h2⟩ | ⟨rfl, rfl, h1, h2⟩ | ⟨rfl, hV, rfl⟩ | ⟨rfl, hV, rfl⟩ | ⟨rfl, hV, rfl⟩ | ⟨rfl, hV, rfl⟩ | ⟨rfl, rfl, rfl, h1⟩ | ⟨rfl, rfl, rfl, h1⟩ | ⟨rfl, rfl, h1⟩ | ⟨rfl, rfl, h1⟩ | ⟨rfl, rfl, h1, h2⟩
  · skip
    go_enter Tryd.func5, Tryd.ntmps5
    go_wp2_with fail
    ((with_reducible refine (HO.out _).mono ?_); rintro _ w1 ⟨rfl, hb⟩)
    have hz := hb.size
    (try simp only [World.size_alloc, World.size_setCell, World.size_drew] at hz)
    have hB' : Below w.heap.size w w1 := by
        refine kb ?_ hb
        go_grown
    clear hb hz
    have hB := hB'; clear hB'
    have hsz := hB.size
    go_wp2_with fail
    ((with_reducible refine (HC.out _ (HL.out.below (by go_grown))).mono ?_); rintro _ w2 ⟨rfl, hb⟩)
    have T : w2.cell? ⟨w1.heap.size, 0, none⟩ = some (.string S) ∧ w2.cell? ⟨w1.heap.size, 1, none⟩ = some (.int .i64 0) ∧ w2.cell? ⟨w1.heap.size, 2, none⟩ = some (.int .i64 0) := by
        refine ⟨?_, ?_, ?_⟩ <;> refine kc hb ?_ <;> (go_simp; first | done | rfl)
    have hz := hb.size
    (try simp only [World.size_alloc, World.size_setCell, World.size_drew] at hz)
    have hlx' : w1.heap.size < w2.heap.size := by omega
    have hB' : Below w.heap.size w w2 := by
        refine kb ?_ hb
        go_grown
    clear hB hsz
    clear hb hz
    obtain ⟨hx_0, hx_1, hx_2⟩ := T
    have hlx := hlx'; clear hlx'
    have hnx0 : ¬ (w1.heap.size = w2.heap.size) := by omega
    have hnx1 : ¬ (w1.heap.size = w2.heap.size + 1) := by omega
    have hkx1 : w1.heap.size < w2.heap.size + 1 := by omega
    have hnx2 : ¬ (w1.heap.size = w2.heap.size + 1 + 1) := by omega
    have hkx2 : w1.heap.size < w2.heap.size + 1 + 1 := by omega
    have hB := hB'; clear hB'
    have hsz := hB.size
    go_wp2_with fail
    ((with_reducible refine (lenp_c 0 _).mono ?_); rintro _ w3 ⟨rfl, hb⟩)
    have T : w3.cell? ⟨w1.heap.size, 0, none⟩ = some (.string S) ∧ w3.cell? ⟨w1.heap.size, 1, none⟩ = some (.int .i64 0) ∧ w3.cell? ⟨w1.heap.size, 2, none⟩ = some (.int .i64 0) := by
        refine ⟨?_, ?_, ?_⟩ <;> refine kc hb ?_ <;> (go_simp; first | done | rfl)
    have hz := hb.size
    (try simp only [World.size_alloc, World.size_setCell, World.size_drew] at hz)
    have hlx' : w1.heap.size < w3.heap.size := by omega
    have hB' : Below w.heap.size w w3 := by
        refine kb ?_ hb
        go_grown
    clear hx_0 hx_1 hx_2 hlx hnx0 hnx1 hkx1 hnx2 hkx2 hB hsz
    clear hb hz
    obtain ⟨hx_0, hx_1, hx_2⟩ := T
    have hlx := hlx'; clear hlx'
    have hnx0 : ¬ (w1.heap.size = w3.heap.size) := by omega
    have hnx1 : ¬ (w1.heap.size = w3.heap.size + 1) := by omega
    have hkx1 : w1.heap.size < w3.heap.size + 1 := by omega
    have hnx2 : ¬ (w1.heap.size = w3.heap.size + 1 + 1) := by omega
    have hkx2 : w1.heap.size < w3.heap.size + 1 + 1 := by omega
    have hB := hB'; clear hB'
    have hsz := hB.size
    have e : lenD 0 = 1 := by decide
    rw [e]
    go_wp2_with fail
    ((with_reducible refine (awake_c _).mono ?_); rintro _ w4 ⟨rfl, hb⟩)
    have T : w4.cell? ⟨w1.heap.size, 0, none⟩ = some (.string S) ∧ w4.cell? ⟨w1.heap.size, 1, none⟩ = some (.int .i64 0) ∧ w4.cell? ⟨w1.heap.size, 2, none⟩ = some (.int .i64 0) := by
        refine ⟨?_, ?_, ?_⟩ <;> refine kc hb ?_ <;> (go_simp; first | done | rfl)
    have hz := hb.size
    (try simp only [World.size_alloc, World.size_setCell, World.size_drew] at hz)
    have hlx' : w1.heap.size < w4.heap.size := by omega
    have hB' : Below w.heap.size w w4 := by
        refine kb ?_ hb
        go_grown
    clear hx_0 hx_1 hx_2 hlx hnx0 hnx1 hkx1 hnx2 hkx2 hB hsz
    clear hb hz
    obtain ⟨hx_0, hx_1, hx_2⟩ := T
    have hlx := hlx'; clear hlx'
    have hnx0 : ¬ (w1.heap.size = w4.heap.size) := by omega
    have hnx1 : ¬ (w1.heap.size = w4.heap.size + 1) := by omega
    have hkx1 : w1.heap.size < w4.heap.size + 1 := by omega
    have hnx2 : ¬ (w1.heap.size = w4.heap.size + 1 + 1) := by omega
    have hkx2 : w1.heap.size < w4.heap.size + 1 + 1 := by omega
    have hB := hB'; clear hB'
    have hsz := hB.size
    go_wp2
    go_ret
    exact ⟨rfl, by go_grown⟩
  · skip
    go_enter Tryd.func5, Tryd.ntmps5
    go_wp2_with fail
    ((with_reducible refine (HO.out _).mono ?_); rintro _ w1 ⟨rfl, hb⟩)
    have hz := hb.size
    (try simp only [World.size_alloc, World.size_setCell, World.size_drew] at hz)
    have hB' : Below w.heap.size w w1 := by
        refine kb ?_ hb
        go_grown
    clear hb hz
    have hB := hB'; clear hB'
    have hsz := hB.size
    go_wp2_with fail
    ((with_reducible refine (HC.out _ (HL.out.below (by go_grown))).mono ?_); rintro _ w2 ⟨rfl, hb⟩)
    have T : w2.cell? ⟨w1.heap.size, 0, none⟩ = some (.string S) ∧ w2.cell? ⟨w1.heap.size, 1, none⟩ = some (.int .i64 1) ∧ w2.cell? ⟨w1.heap.size, 2, none⟩ = some (.int .i64 0) := by
        refine ⟨?_, ?_, ?_⟩ <;> refine kc hb ?_ <;> (go_simp; first | done | rfl)
    have hz := hb.size
    (try simp only [World.size_alloc, World.size_setCell, World.size_drew] at hz)
    have hlx' : w1.heap.size < w2.heap.size := by omega
    have hB' : Below w.heap.size w w2 := by
        refine kb ?_ hb
        go_grown
    clear hB hsz
    clear hb hz
    obtain ⟨hx_0, hx_1, hx_2⟩ := T
    have hlx := hlx'; clear hlx'
    have hnx0 : ¬ (w1.heap.size = w2.heap.size) := by omega
    have hnx1 : ¬ (w1.heap.size = w2.heap.size + 1) := by omega
    have hkx1 : w1.heap.size < w2.heap.size + 1 := by omega
    have hnx2 : ¬ (w1.heap.size = w2.heap.size + 1 + 1) := by omega
    have hkx2 : w1.heap.size < w2.heap.size + 1 + 1 := by omega
    have hB := hB'; clear hB'
    have hsz := hB.size
    go_wp2_with fail
    ((with_reducible refine (lenp_c 1 _).mono ?_); rintro _ w3 ⟨rfl, hb⟩)
    have T : w3.cell? ⟨w1.heap.size, 0, none⟩ = some (.string S) ∧ w3.cell? ⟨w1.heap.size, 1, none⟩ = some (.int .i64 1) ∧ w3.cell? ⟨w1.heap.size, 2, none⟩ = some (.int .i64 0) := by
        refine ⟨?_, ?_, ?_⟩ <;> refine kc hb ?_ <;> (go_simp; first | done | rfl)
    have hz := hb.size
    (try simp only [World.size_alloc, World.size_setCell, World.size_drew] at hz)
    have hlx' : w1.heap.size < w3.heap.size := by omega
    have hB' : Below w.heap.size w w3 := by
        refine kb ?_ hb
        go_grown
    clear hx_0 hx_1 hx_2 hlx hnx0 hnx1 hkx1 hnx2 hkx2 hB hsz
    clear hb hz
    obtain ⟨hx_0, hx_1, hx_2⟩ := T
    have hlx := hlx'; clear hlx'
    have hnx0 : ¬ (w1.heap.size = w3.heap.size) := by omega
    have hnx1 : ¬ (w1.heap.size = w3.heap.size + 1) := by omega
    have hkx1 : w1.heap.size < w3.heap.size + 1 := by omega
    have hnx2 : ¬ (w1.heap.size = w3.heap.size + 1 + 1) := by omega
    have hkx2 : w1.heap.size < w3.heap.size + 1 + 1 := by omega
    have hB := hB'; clear hB'
    have hsz := hB.size
    have e : lenD 1 = 1 := by decide
    rw [e]
    go_wp2_with fail
    ((with_reducible refine (awake_c _).mono ?_); rintro _ w4 ⟨rfl, hb⟩)
    have T : w4.cell? ⟨w1.heap.size, 0, none⟩ = some (.string S) ∧ w4.cell? ⟨w1.heap.size, 1, none⟩ = some (.int .i64 1) ∧ w4.cell? ⟨w1.heap.size, 2, none⟩ = some (.int .i64 0) := by
        refine ⟨?_, ?_, ?_⟩ <;> refine kc hb ?_ <;> (go_simp; first | done | rfl)
    have hz := hb.size
    (try simp only [World.size_alloc, World.size_setCell, World.size_drew] at hz)
    have hlx' : w1.heap.size < w4.heap.size := by omega
    have hB' : Below w.heap.size w w4 := by
        refine kb ?_ hb
        go_grown
    clear hx_0 hx_1 hx_2 hlx hnx0 hnx1 hkx1 hnx2 hkx2 hB hsz
    clear hb hz
    obtain ⟨hx_0, hx_1, hx_2⟩ := T
    have hlx := hlx'; clear hlx'
    have hnx0 : ¬ (w1.heap.size = w4.heap.size) := by omega
    have hnx1 : ¬ (w1.heap.size = w4.heap.size + 1) := by omega
    have hkx1 : w1.heap.size < w4.heap.size + 1 := by omega
    have hnx2 : ¬ (w1.heap.size = w4.heap.size + 1 + 1) := by omega
    have hkx2 : w1.heap.size < w4.heap.size + 1 + 1 := by omega
    have hB := hB'; clear hB'
    have hsz := hB.size
    go_wp2
    go_ret
    exact ⟨rfl, by go_grown⟩
  · skip
    go_enter Tryd.func5, Tryd.ntmps5
    go_wp2_with fail
    ((with_reducible refine (HO.out _).mono ?_); rintro _ w1 ⟨rfl, hb⟩)
    have hz := hb.size
    (try simp only [World.size_alloc, World.size_setCell, World.size_drew] at hz)
    have hB' : Below w.heap.size w w1 := by
        refine kb ?_ hb
        go_grown
    clear hb hz
    have hB := hB'; clear hB'
    have hsz := hB.size
    go_wp2_with fail
    ((with_reducible refine (awake_c _).mono ?_); rintro _ w4 ⟨rfl, hb⟩)
    have T : w4.cell? ⟨w1.heap.size, 0, none⟩ = some (.string S) ∧ w4.cell? ⟨w1.heap.size, 1, none⟩ = some (.int .i64 M) ∧ w4.cell? ⟨w1.heap.size, 2, none⟩ = some (.int .i64 1) := by
        refine ⟨?_, ?_, ?_⟩ <;> refine kc hb ?_ <;> (go_simp; first | done | rfl)
    have hz := hb.size
    (try simp only [World.size_alloc, World.size_setCell, World.size_drew] at hz)
    have hlx' : w1.heap.size < w4.heap.size := by omega
    have hB' : Below w.heap.size w w4 := by
        refine kb ?_ hb
        go_grown
    clear hB hsz
    clear hb hz
    obtain ⟨hx_0, hx_1, hx_2⟩ := T
    have hlx := hlx'; clear hlx'
    have hnx0 : ¬ (w1.heap.size = w4.heap.size) := by omega
    have hnx1 : ¬ (w1.heap.size = w4.heap.size + 1) := by omega
    have hkx1 : w1.heap.size < w4.heap.size + 1 := by omega
    have hnx2 : ¬ (w1.heap.size = w4.heap.size + 1 + 1) := by omega
    have hkx2 : w1.heap.size < w4.heap.size + 1 + 1 := by omega
    have hB := hB'; clear hB'
    have hsz := hB.size
    go_wp2
    go_ret
    exact ⟨rfl, by go_grown⟩
  · skip
    go_enter Tryd.func5, Tryd.ntmps5
    go_wp2_with fail
    ((with_reducible refine (HO.out _).mono ?_); rintro _ w1 ⟨rfl, hb⟩)
    have hz := hb.size
    (try simp only [World.size_alloc, World.size_setCell, World.size_drew] at hz)
    have hB' : Below w.heap.size w w1 := by
        refine kb ?_ hb
        go_grown
    clear hb hz
    have hB := hB'; clear hB'
    have hsz := hB.size
    go_wp2_with fail
    ((with_reducible refine (awake_c _).mono ?_); rintro _ w4 ⟨rfl, hb⟩)
    have T : w4.cell? ⟨w1.heap.size, 0, none⟩ = some (.string S) ∧ w4.cell? ⟨w1.heap.size, 1, none⟩ = some (.int .i64 M) ∧ w4.cell? ⟨w1.heap.size, 2, none⟩ = some (.int .i64 2) := by
        refine ⟨?_, ?_, ?_⟩ <;> refine kc hb ?_ <;> (go_simp; first | done | rfl)
    have hz := hb.size
    (try simp only [World.size_alloc, World.size_setCell, World.size_drew] at hz)
    have hlx' : w1.heap.size < w4.heap.size := by omega
    have hB' : Below w.heap.size w w4 := by
        refine kb ?_ hb
        go_grown
    clear hB hsz
    clear hb hz
    obtain ⟨hx_0, hx_1, hx_2⟩ := T
    have hlx := hlx'; clear hlx'
    have hnx0 : ¬ (w1.heap.size = w4.heap.size) := by omega
    have hnx1 : ¬ (w1.heap.size = w4.heap.size + 1) := by omega
    have hkx1 : w1.heap.size < w4.heap.size + 1 := by omega
    have hnx2 : ¬ (w1.heap.size = w4.heap.size + 1 + 1) := by omega
    have hkx2 : w1.heap.size < w4.heap.size + 1 + 1 := by omega
    have hB := hB'; clear hB'
    have hsz := hB.size
    go_wp2
    go_ret
    exact ⟨rfl, by go_grown⟩
  · skip
    go_enter Tryd.func5, Tryd.ntmps5
    go_wp2_with fail
    ((with_reducible refine (HO.out _).mono ?_); rintro _ w1 ⟨rfl, hb⟩)
    have hz := hb.size
    (try simp only [World.size_alloc, World.size_setCell, World.size_drew] at hz)
    have hB' : Below w.heap.size w w1 := by
        refine kb ?_ hb
        go_grown
    clear hb hz
    have hB := hB'; clear hB'
    have hsz := hB.size
    go_wp2_with fail
    ((with_reducible refine (HC.out _ (HL.out.below (by go_grown))).mono ?_); rintro _ w2 ⟨rfl, hb⟩)
    have T : w2.cell? ⟨w1.heap.size, 0, none⟩ = some (.string S) ∧ w2.cell? ⟨w1.heap.size, 1, none⟩ = some (.int .i64 3) ∧ w2.cell? ⟨w1.heap.size, 2, none⟩ = some (.int .i64 3) := by
        refine ⟨?_, ?_, ?_⟩ <;> refine kc hb ?_ <;> (go_simp; first | done | rfl)
    have hz := hb.size
    (try simp only [World.size_alloc, World.size_setCell, World.size_drew] at hz)
    have hlx' : w1.heap.size < w2.heap.size := by omega
    have hB' : Below w.heap.size w w2 := by
        refine kb ?_ hb
        go_grown
    clear hB hsz
    clear hb hz
    obtain ⟨hx_0, hx_1, hx_2⟩ := T
    have hlx := hlx'; clear hlx'
    have hnx0 : ¬ (w1.heap.size = w2.heap.size) := by omega
    have hnx1 : ¬ (w1.heap.size = w2.heap.size + 1) := by omega
    have hkx1 : w1.heap.size < w2.heap.size + 1 := by omega
    have hnx2 : ¬ (w1.heap.size = w2.heap.size + 1 + 1) := by omega
    have hkx2 : w1.heap.size < w2.heap.size + 1 + 1 := by omega
    have hB := hB'; clear hB'
    have hsz := hB.size
    go_wp2_with fail
    ((with_reducible refine (awake_c _).mono ?_); rintro _ w4 ⟨rfl, hb⟩)
    have T : w4.cell? ⟨w1.heap.size, 0, none⟩ = some (.string S) ∧ w4.cell? ⟨w1.heap.size, 1, none⟩ = some (.int .i64 3) ∧ w4.cell? ⟨w1.heap.size, 2, none⟩ = some (.int .i64 3) := by
        refine ⟨?_, ?_, ?_⟩ <;> refine kc hb ?_ <;> (go_simp; first | done | rfl)
    have hz := hb.size
    (try simp only [World.size_alloc, World.size_setCell, World.size_drew] at hz)
    have hlx' : w1.heap.size < w4.heap.size := by omega
    have hB' : Below w.heap.size w w4 := by
        refine kb ?_ hb
        go_grown
    clear hx_0 hx_1 hx_2 hlx hnx0 hnx1 hkx1 hnx2 hkx2 hB hsz
    clear hb hz
    obtain ⟨hx_0, hx_1, hx_2⟩ := T
    have hlx := hlx'; clear hlx'
    have hnx0 : ¬ (w1.heap.size = w4.heap.size) := by omega
    have hnx1 : ¬ (w1.heap.size = w4.heap.size + 1) := by omega
    have hkx1 : w1.heap.size < w4.heap.size + 1 := by omega
    have hnx2 : ¬ (w1.heap.size = w4.heap.size + 1 + 1) := by omega
    have hkx2 : w1.heap.size < w4.heap.size + 1 + 1 := by omega
    have hB := hB'; clear hB'
    have hsz := hB.size
    go_wp2
    go_ret
    exact ⟨rfl, by go_grown⟩
  · skip
    go_enter Tryd.func5, Tryd.ntmps5
    go_wp2_with fail
    ((with_reducible refine (HO.out _).mono ?_); rintro _ w1 ⟨rfl, hb⟩)
    have hz := hb.size
    (try simp only [World.size_alloc, World.size_setCell, World.size_drew] at hz)
    have hB' : Below w.heap.size w w1 := by
        refine kb ?_ hb
        go_grown
    clear hb hz
    have hB := hB'; clear hB'
    have hsz := hB.size
    go_wp2_with fail
    ((with_reducible refine (HC.out _ (HL.out.below (by go_grown))).mono ?_); rintro _ w2 ⟨rfl, hb⟩)
    have T : w2.cell? ⟨w1.heap.size, 0, none⟩ = some (.string S) ∧ w2.cell? ⟨w1.heap.size, 1, none⟩ = some (.int .i64 4) ∧ w2.cell? ⟨w1.heap.size, 2, none⟩ = some (.int .i64 3) := by
        refine ⟨?_, ?_, ?_⟩ <;> refine kc hb ?_ <;> (go_simp; first | done | rfl)
    have hz := hb.size
    (try simp only [World.size_alloc, World.size_setCell, World.size_drew] at hz)
    have hlx' : w1.heap.size < w2.heap.size := by omega
    have hB' : Below w.heap.size w w2 := by
        refine kb ?_ hb
        go_grown
    clear hB hsz
    clear hb hz
    obtain ⟨hx_0, hx_1, hx_2⟩ := T
    have hlx := hlx'; clear hlx'
    have hnx0 : ¬ (w1.heap.size = w2.heap.size) := by omega
    have hnx1 : ¬ (w1.heap.size = w2.heap.size + 1) := by omega
    have hkx1 : w1.heap.size < w2.heap.size + 1 := by omega
    have hnx2 : ¬ (w1.heap.size = w2.heap.size + 1 + 1) := by omega
    have hkx2 : w1.heap.size < w2.heap.size + 1 + 1 := by omega
    have hB := hB'; clear hB'
    have hsz := hB.size
    go_wp2_with fail
    ((with_reducible refine (awake_c _).mono ?_); rintro _ w4 ⟨rfl, hb⟩)
    have T : w4.cell? ⟨w1.heap.size, 0, none⟩ = some (.string S) ∧ w4.cell? ⟨w1.heap.size, 1, none⟩ = some (.int .i64 4) ∧ w4.cell? ⟨w1.heap.size, 2, none⟩ = some (.int .i64 3) := by
        refine ⟨?_, ?_, ?_⟩ <;> refine kc hb ?_ <;> (go_simp; first | done | rfl)
    have hz := hb.size
    (try simp only [World.size_alloc, World.size_setCell, World.size_drew] at hz)
    have hlx' : w1.heap.size < w4.heap.size := by omega
    have hB' : Below w.heap.size w w4 := by
        refine kb ?_ hb
        go_grown
    clear hx_0 hx_1 hx_2 hlx hnx0 hnx1 hkx1 hnx2 hkx2 hB hsz
    clear hb hz
    obtain ⟨hx_0, hx_1, hx_2⟩ := T
    have hlx := hlx'; clear hlx'
    have hnx0 : ¬ (w1.heap.size = w4.heap.size) := by omega
    have hnx1 : ¬ (w1.heap.size = w4.heap.size + 1) := by omega
    have hkx1 : w1.heap.size < w4.heap.size + 1 := by omega
    have hnx2 : ¬ (w1.heap.size = w4.heap.size + 1 + 1) := by omega
    have hkx2 : w1.heap.size < w4.heap.size + 1 + 1 := by omega
    have hB := hB'; clear hB'
    have hsz := hB.size
    go_wp2
    go_ret
    exact ⟨rfl, by go_grown⟩
  · skip
    go_enter Tryd.func5, Tryd.ntmps5
    go_wp2_with fail
    ((with_reducible refine (HO.out _).mono ?_); rintro _ w1 ⟨rfl, hb⟩)
    have hz := hb.size
    (try simp only [World.size_alloc, World.size_setCell, World.size_drew] at hz)
    have hB' : Below w.heap.size w w1 := by
        refine kb ?_ hb
        go_grown
    clear hb hz
    have hB := hB'; clear hB'
    have hsz := hB.size
    go_wp2_with fail
    ((with_reducible refine (HC.out _ (HL.out.below (by go_grown))).mono ?_); rintro _ w2 ⟨rfl, hb⟩)
    have T : w2.cell? ⟨w1.heap.size, 0, none⟩ = some (.string S) ∧ w2.cell? ⟨w1.heap.size, 1, none⟩ = some (.int .i64 6) ∧ w2.cell? ⟨w1.heap.size, 2, none⟩ = some (.int .i64 3) := by
        refine ⟨?_, ?_, ?_⟩ <;> refine kc hb ?_ <;> (go_simp; first | done | rfl)
    have hz := hb.size
    (try simp only [World.size_alloc, World.size_setCell, World.size_drew] at hz)
    have hlx' : w1.heap.size < w2.heap.size := by omega
    have hB' : Below w.heap.size w w2 := by
        refine kb ?_ hb
        go_grown
    clear hB hsz
    clear hb hz
    obtain ⟨hx_0, hx_1, hx_2⟩ := T
    have hlx := hlx'; clear hlx'
    have hnx0 : ¬ (w1.heap.size = w2.heap.size) := by omega
    have hnx1 : ¬ (w1.heap.size = w2.heap.size + 1) := by omega
    have hkx1 : w1.heap.size < w2.heap.size + 1 := by omega
    have hnx2 : ¬ (w1.heap.size = w2.heap.size + 1 + 1) := by omega
    have hkx2 : w1.heap.size < w2.heap.size + 1 + 1 := by omega
    have hB := hB'; clear hB'
    have hsz := hB.size
    go_wp2_with fail
    ((with_reducible refine (awake_c _).mono ?_); rintro _ w4 ⟨rfl, hb⟩)
    have T : w4.cell? ⟨w1.heap.size, 0, none⟩ = some (.string S) ∧ w4.cell? ⟨w1.heap.size, 1, none⟩ = some (.int .i64 6) ∧ w4.cell? ⟨w1.heap.size, 2, none⟩ = some (.int .i64 3) := by
        refine ⟨?_, ?_, ?_⟩ <;> refine kc hb ?_ <;> (go_simp; first | done | rfl)
    have hz := hb.size
    (try simp only [World.size_alloc, World.size_setCell, World.size_drew] at hz)
    have hlx' : w1.heap.size < w4.heap.size := by omega
    have hB' : Below w.heap.size w w4 := by
        refine kb ?_ hb
        go_grown
    clear hx_0 hx_1 hx_2 hlx hnx0 hnx1 hkx1 hnx2 hkx2 hB hsz
    clear hb hz
    obtain ⟨hx_0, hx_1, hx_2⟩ := T
    have hlx := hlx'; clear hlx'
    have hnx0 : ¬ (w1.heap.size = w4.heap.size) := by omega
    have hnx1 : ¬ (w1.heap.size = w4.heap.size + 1) := by omega
    have hkx1 : w1.heap.size < w4.heap.size + 1 := by omega
    have hnx2 : ¬ (w1.heap.size = w4.heap.size + 1 + 1) := by omega
    have hkx2 : w1.heap.size < w4.heap.size + 1 + 1 := by omega
    have hB := hB'; clear hB'
    have hsz := hB.size
    go_wp2
    go_ret
    exact ⟨rfl, by go_grown⟩
  · skip
    go_enter Tryd.func5, Tryd.ntmps5
    go_wp2_with fail
    ((with_reducible refine (HO.out _).mono ?_); rintro _ w1 ⟨rfl, hb⟩)
    have hz := hb.size
    (try simp only [World.size_alloc, World.size_setCell, World.size_drew] at hz)
    have hB' : Below w.heap.size w w1 := by
        refine kb ?_ hb
        go_grown
    clear hb hz
    have hB := hB'; clear hB'
    have hsz := hB.size
    go_wp2_with fail
    ((with_reducible refine (HC.out _ (HL.out.below (by go_grown))).mono ?_); rintro _ w2 ⟨rfl, hb⟩)
    have T : w2.cell? ⟨w1.heap.size, 0, none⟩ = some (.string S) ∧ w2.cell? ⟨w1.heap.size, 1, none⟩ = some (.int .i64 7) ∧ w2.cell? ⟨w1.heap.size, 2, none⟩ = some (.int .i64 3) := by
        refine ⟨?_, ?_, ?_⟩ <;> refine kc hb ?_ <;> (go_simp; first | done | rfl)
    have hz := hb.size
    (try simp only [World.size_alloc, World.size_setCell, World.size_drew] at hz)
    have hlx' : w1.heap.size < w2.heap.size := by omega
    have hB' : Below w.heap.size w w2 := by
        refine kb ?_ hb
        go_grown
    clear hB hsz
    clear hb hz
    obtain ⟨hx_0, hx_1, hx_2⟩ := T
    have hlx := hlx'; clear hlx'
    have hnx0 : ¬ (w1.heap.size = w2.heap.size) := by omega
    have hnx1 : ¬ (w1.heap.size = w2.heap.size + 1) := by omega
    have hkx1 : w1.heap.size < w2.heap.size + 1 := by omega
    have hnx2 : ¬ (w1.heap.size = w2.heap.size + 1 + 1) := by omega
    have hkx2 : w1.heap.size < w2.heap.size + 1 + 1 := by omega
    have hB := hB'; clear hB'
    have hsz := hB.size
    go_wp2_with fail
    ((with_reducible refine (awake_c _).mono ?_); rintro _ w4 ⟨rfl, hb⟩)
    have T : w4.cell? ⟨w1.heap.size, 0, none⟩ = some (.string S) ∧ w4.cell? ⟨w1.heap.size, 1, none⟩ = some (.int .i64 7) ∧ w4.cell? ⟨w1.heap.size, 2, none⟩ = some (.int .i64 3) := by
        refine ⟨?_, ?_, ?_⟩ <;> refine kc hb ?_ <;> (go_simp; first | done | rfl)
    have hz := hb.size
    (try simp only [World.size_alloc, World.size_setCell, World.size_drew] at hz)
    have hlx' : w1.heap.size < w4.heap.size := by omega
    have hB' : Below w.heap.size w w4 := by
        refine kb ?_ hb
        go_grown
    clear hx_0 hx_1 hx_2 hlx hnx0 hnx1 hkx1 hnx2 hkx2 hB hsz
    clear hb hz
    obtain ⟨hx_0, hx_1, hx_2⟩ := T
    have hlx := hlx'; clear hlx'
    have hnx0 : ¬ (w1.heap.size = w4.heap.size) := by omega
    have hnx1 : ¬ (w1.heap.size = w4.heap.size + 1) := by omega
    have hkx1 : w1.heap.size < w4.heap.size + 1 := by omega
    have hnx2 : ¬ (w1.heap.size = w4.heap.size + 1 + 1) := by omega
    have hkx2 : w1.heap.size < w4.heap.size + 1 + 1 := by omega
    have hB := hB'; clear hB'
    have hsz := hB.size
    go_wp2
    go_ret
    exact ⟨rfl, by go_grown⟩
  · skip
    go_enter Tryd.func5, Tryd.ntmps5
    go_wp2_with fail
    ((with_reducible refine (HO.out _).mono ?_); rintro _ w1 ⟨rfl, hb⟩)
    have hz := hb.size
    (try simp only [World.size_alloc, World.size_setCell, World.size_drew] at hz)
    have hB' : Below w.heap.size w w1 := by
        refine kb ?_ hb
        go_grown
    clear hb hz
    have hB := hB'; clear hB'
    have hsz := hB.size
    go_wp2_with fail
    refine wp_region_plan (fun w' => w'.cell? ⟨w1.heap.size, 0, none⟩ = some (.string S) ∧ w'.cell? ⟨w1.heap.size, 1, none⟩ = some (.int .i64 12) ∧ w'.cell? ⟨w1.heap.size, 2, none⟩ = some (.int .i64 4) ∧ Below w.heap.size w w') (by kernel_rfl) (by kernel_rfl) (by kernel_rfl) ?_ ?_
    · (try dsimp only)
      refine ⟨?_, ?_, ?_, ?_⟩ <;> first | (go_simp; done) | (simp [*]; done) | go_grown
    repeat (first
      | (refine Plan.val (v := ?_) ?_ ?_ ?_; rotate_left; (· rfl); (· (intro W hSw; (try dsimp only at hSw); go_simp; all_goals (first | (with_reducible rfl) | (constructor <;> (with_reducible rfl))))); (try simp only [Act.put, List.setIfInBounds_toArray, List.set_cons_zero, List.set_cons_succ]))
      | (refine Plan.no ?_ ?_; (· rfl); (try simp only [Act.put, List.setIfInBounds_toArray, List.set_cons_zero, List.set_cons_succ]))
      | (refine Plan.call (v := ?_) (f := ?_) (args := ?_) ?_ ?_ ?_ ?_; rotate_left 3; (· rfl); (· (intro W hSw; (try dsimp only at hSw); go_simp; all_goals (first | (with_reducible rfl) | (constructor <;> (with_reducible rfl))))); (· (intro W hSw; (try dsimp only at hSw); first | (go_at_call 9; ((with_reducible refine (awake_c _).mono ?_); rintro _ wz ⟨rfl, hb⟩; (refine ⟨?_, ?_⟩; (· with_reducible rfl); exact ⟨kc hb hSw.1, kc hb hSw.2.1, kc hb hSw.2.2.1, kb hSw.2.2.2 hb⟩))))); (try simp only [Act.put, List.setIfInBounds_toArray, List.set_cons_zero, List.set_cons_succ])))
    refine Plan.done ?_
    intro wz T
    (try dsimp only at T)
    have hBe := T.2.2.2
    go_wp2
    go_ret
    exact ⟨rfl, hBe⟩
  · skip
    go_enter Tryd.func5, Tryd.ntmps5
    go_wp2_with fail
    ((with_reducible refine (HO.out _).mono ?_); rintro _ w1 ⟨rfl, hb⟩)
    have hz := hb.size
    (try simp only [World.size_alloc, World.size_setCell, World.size_drew] at hz)
    have hB' : Below w.heap.size w w1 := by
        refine kb ?_ hb
        go_grown
    clear hb hz
    have hB := hB'; clear hB'
    have hsz := hB.size
    go_wp2_with fail
    refine wp_region_plan (fun w' => w'.cell? ⟨w1.heap.size, 0, none⟩ = some (.string S) ∧ w'.cell? ⟨w1.heap.size, 1, none⟩ = some (.int .i64 0) ∧ w'.cell? ⟨w1.heap.size, 2, none⟩ = some (.int .i64 4) ∧ Below w.heap.size w w') (by kernel_rfl) (by kernel_rfl) (by kernel_rfl) ?_ ?_
    · (try dsimp only)
      refine ⟨?_, ?_, ?_, ?_⟩ <;> first | (go_simp; done) | (simp [*]; done) | go_grown
    repeat (first
      | (refine Plan.val (v := ?_) ?_ ?_ ?_; rotate_left; (· rfl); (· (intro W hSw; (try dsimp only at hSw); go_simp; all_goals (first | (with_reducible rfl) | (constructor <;> (with_reducible rfl))))); (try simp only [Act.put, List.setIfInBounds_toArray, List.set_cons_zero, List.set_cons_succ]))
      | (refine Plan.no ?_ ?_; (· rfl); (try simp only [Act.put, List.setIfInBounds_toArray, List.set_cons_zero, List.set_cons_succ]))
      | (refine Plan.call (v := ?_) (f := ?_) (args := ?_) ?_ ?_ ?_ ?_; rotate_left 3; (· rfl); (· (intro W hSw; (try dsimp only at hSw); go_simp; all_goals (first | (with_reducible rfl) | (constructor <;> (with_reducible rfl))))); (· (intro W hSw; (try dsimp only at hSw); first | (go_at_call 9; ((with_reducible refine (awake_c _).mono ?_); rintro _ wz ⟨rfl, hb⟩; (refine ⟨?_, ?_⟩; (· with_reducible rfl); exact ⟨kc hb hSw.1, kc hb hSw.2.1, kc hb hSw.2.2.1, kb hSw.2.2.2 hb⟩))))); (try simp only [Act.put, List.setIfInBounds_toArray, List.set_cons_zero, List.set_cons_succ])))
    refine Plan.done ?_
    intro wz T
    (try dsimp only at T)
    have hBe := T.2.2.2
    go_wp2
    go_ret
    exact ⟨rfl, hBe⟩
  · skip
    go_enter Tryd.func5, Tryd.ntmps5
    go_wp2_with fail
    ((with_reducible refine (HO.out _).mono ?_); rintro _ w1 ⟨rfl, hb⟩)
    have hz := hb.size
    (try simp only [World.size_alloc, World.size_setCell, World.size_drew] at hz)
    have hB' : Below w.heap.size w w1 := by
        refine kb ?_ hb
        go_grown
    clear hb hz
    have hB := hB'; clear hB'
    have hsz := hB.size
    go_wp2_with fail
    refine wp_region_plan (fun w' => w'.cell? ⟨w1.heap.size, 0, none⟩ = some (.string S) ∧ w'.cell? ⟨w1.heap.size, 1, none⟩ = some (.int .i64 0) ∧ w'.cell? ⟨w1.heap.size, 2, none⟩ = some (.int .i64 4) ∧ Below w.heap.size w w') (by kernel_rfl) (by kernel_rfl) (by kernel_rfl) ?_ ?_
    · (try dsimp only)
      refine ⟨?_, ?_, ?_, ?_⟩ <;> first | (go_simp; done) | (simp [*]; done) | go_grown
    repeat (first
      | (refine Plan.val (v := ?_) ?_ ?_ ?_; rotate_left; (· rfl); (· (intro W hSw; (try dsimp only at hSw); go_simp; all_goals (first | (with_reducible rfl) | (constructor <;> (with_reducible rfl))))); (try simp only [Act.put, List.setIfInBounds_toArray, List.set_cons_zero, List.set_cons_succ]))
      | (refine Plan.no ?_ ?_; (· rfl); (try simp only [Act.put, List.setIfInBounds_toArray, List.set_cons_zero, List.set_cons_succ]))
      | (refine Plan.call (v := ?_) (f := ?_) (args := ?_) ?_ ?_ ?_ ?_; rotate_left 3; (· rfl); (· (intro W hSw; (try dsimp only at hSw); go_simp; all_goals (first | (with_reducible rfl) | (constructor <;> (with_reducible rfl))))); (· (intro W hSw; (try dsimp only at hSw); first | (go_at_call 9; ((with_reducible refine (awake_c _).mono ?_); rintro _ wz ⟨rfl, hb⟩; (refine ⟨?_, ?_⟩; (· with_reducible rfl); exact ⟨kc hb hSw.1, kc hb hSw.2.1, kc hb hSw.2.2.1, kb hSw.2.2.2 hb⟩))))); (try simp only [Act.put, List.setIfInBounds_toArray, List.set_cons_zero, List.set_cons_succ])))
    refine Plan.done ?_
    intro wz T
    (try dsimp only at T)
    have hBe := T.2.2.2
    go_wp2
    go_ret
    exact ⟨rfl, hBe⟩
  · skip
    go_enter Tryd.func5, Tryd.ntmps5
    go_wp2_with fail
    ((with_reducible refine (HO.out _).mono ?_); rintro _ w1 ⟨rfl, hb⟩)
    have hz := hb.size
    (try simp only [World.size_alloc, World.size_setCell, World.size_drew] at hz)
    have hB' : Below w.heap.size w w1 := by
        refine kb ?_ hb
        go_grown
    clear hb hz
    have hB := hB'; clear hB'
    have hsz := hB.size
    go_wp2_with fail
    refine wp_region_plan (fun w' => w'.cell? ⟨w1.heap.size, 0, none⟩ = some (.string S) ∧ w'.cell? ⟨w1.heap.size, 1, none⟩ = some (.int .i64 6) ∧ w'.cell? ⟨w1.heap.size, 2, none⟩ = some (.int .i64 4) ∧ Below w.heap.size w w') (by kernel_rfl) (by kernel_rfl) (by kernel_rfl) ?_ ?_
    · (try dsimp only)
      refine ⟨?_, ?_, ?_, ?_⟩ <;> first | (go_simp; done) | (simp [*]; done) | go_grown
    repeat (first
      | (refine Plan.val (v := ?_) ?_ ?_ ?_; rotate_left; (· rfl); (· (intro W hSw; (try dsimp only at hSw); go_simp; all_goals (first | (with_reducible rfl) | (constructor <;> (with_reducible rfl))))); (try simp only [Act.put, List.setIfInBounds_toArray, List.set_cons_zero, List.set_cons_succ]))
      | (refine Plan.no ?_ ?_; (· rfl); (try simp only [Act.put, List.setIfInBounds_toArray, List.set_cons_zero, List.set_cons_succ]))
      | (refine Plan.call (v := ?_) (f := ?_) (args := ?_) ?_ ?_ ?_ ?_; rotate_left 3; (· rfl); (· (intro W hSw; (try dsimp only at hSw); go_simp; all_goals (first | (with_reducible rfl) | (constructor <;> (with_reducible rfl))))); (· (intro W hSw; (try dsimp only at hSw); first | (go_at_call 9; ((with_reducible refine (awake_c _).mono ?_); rintro _ wz ⟨rfl, hb⟩; (refine ⟨?_, ?_⟩; (· with_reducible rfl); exact ⟨kc hb hSw.1, kc hb hSw.2.1, kc hb hSw.2.2.1, kb hSw.2.2.2 hb⟩))))); (try simp only [Act.put, List.setIfInBounds_toArray, List.set_cons_zero, List.set_cons_succ])))
    refine Plan.done ?_
    intro wz T
    (try dsimp only at T)
    have hBe := T.2.2.2
    go_wp2
    go_ret
    exact ⟨rfl, hBe⟩
  · skip
    go_enter Tryd.func5, Tryd.ntmps5
    go_wp2_with fail
    ((with_reducible refine (HO.out _).mono ?_); rintro _ w1 ⟨rfl, hb⟩)
    have hz := hb.size
    (try simp only [World.size_alloc, World.size_setCell, World.size_drew] at hz)
    have hB' : Below w.heap.size w w1 := by
        refine kb ?_ hb
        go_grown
    clear hb hz
    have hB := hB'; clear hB'
    have hsz := hB.size
    go_wp2_with fail
    refine wp_region_plan (fun w' => w'.cell? ⟨w1.heap.size, 0, none⟩ = some (.string S) ∧ w'.cell? ⟨w1.heap.size, 1, none⟩ = some (.int .i64 11) ∧ w'.cell? ⟨w1.heap.size, 2, none⟩ = some (.int .i64 4) ∧ Below w.heap.size w w') (by kernel_rfl) (by kernel_rfl) (by kernel_rfl) ?_ ?_
    · (try dsimp only)
      refine ⟨?_, ?_, ?_, ?_⟩ <;> first | (go_simp; done) | (simp [*]; done) | go_grown
    repeat (first
      | (refine Plan.val (v := ?_) ?_ ?_ ?_; rotate_left; (· rfl); (· (intro W hSw; (try dsimp only at hSw); go_simp; all_goals (first | (with_reducible rfl) | (constructor <;> (with_reducible rfl))))); (try simp only [Act.put, List.setIfInBounds_toArray, List.set_cons_zero, List.set_cons_succ]))
      | (refine Plan.no ?_ ?_; (· rfl); (try simp only [Act.put, List.setIfInBounds_toArray, List.set_cons_zero, List.set_cons_succ]))
      | (refine Plan.call (v := ?_) (f := ?_) (args := ?_) ?_ ?_ ?_ ?_; rotate_left 3; (· rfl); (· (intro W hSw; (try dsimp only at hSw); go_simp; all_goals (first | (with_reducible rfl) | (constructor <;> (with_reducible rfl))))); (· (intro W hSw; (try dsimp only at hSw); first | (go_at_call 9; ((with_reducible refine (awake_c _).mono ?_); rintro _ wz ⟨rfl, hb⟩; (refine ⟨?_, ?_⟩; (· with_reducible rfl); exact ⟨kc hb hSw.1, kc hb hSw.2.1, kc hb hSw.2.2.1, kb hSw.2.2.2 hb⟩))))); (try simp only [Act.put, List.setIfInBounds_toArray, List.set_cons_zero, List.set_cons_succ])))
    refine Plan.done ?_
    intro wz T
    (try dsimp only at T)
    have hBe := T.2.2.2
    go_wp2
    go_ret
    exact ⟨rfl, hBe⟩
end Go.Proofs.YtnigcmicimdphaaDoor
