/-
  OpcodeBack returns true: the walk.
-/
import Derived.Test.YtnigcmicimdphaaDoorByte
import Derived.Test.YtnigcmicimdphaaDoorCycp
import Derived.Test.YtnigcmicimdphaaDoorAwake4
import Derived.Test.YtnigcmicimdphaaDoorLenp
set_option linter.unusedSimpArgs false
set_option linter.unusedVariables false
namespace Go.Proofs.YtnigcmicimdphaaDoor
open Go.RowKit Go.PlainAid

theorem back_facts : ∀ b : Fin 256, isOp b.val = true → byteB (nm b.val) (md b.val) = (b.val : Int) ∧ byteE (nm b.val) (md b.val) = 0 ∧ (nm b.val).length = 3 ∧ decide (cycV b.val ≤ 7) = true ∧
    ((lenD (md b.val) = 1 ∧ decide (2 ≤ cycV b.val) = true) ∨ (lenD (md b.val) = 2 ∧ decide (2 ≤ cycV b.val) = true) ∨ (lenD (md b.val) = 3 ∧ decide (3 ≤ cycV b.val) = true)) := by decide +kernel
set_option maxRecDepth 100000 in
set_option maxHeartbeats 2000000 in
theorem back_op (b : Nat) (hb : b < 256) (S : ByteArray) (M K V n : Int) (hS : S.size = 3)
    (hO : ∀ w, Calls Tryd.prog 6 #[.int .u8 b] w fun e w' => e = .returned (.tuple #[.agg #[.string S, .int .i64 M, .int .i64 K], .int .i64 0]) ∧ Below w.heap.size w w')
    (hY : ∀ w, Calls Tryd.prog 13 #[.string S, .int .i64 M] w fun e w' => e = .returned (.tuple #[.int .u8 b, .int .i64 0]) ∧ Below w.heap.size w w')
    (hN : ∀ w, Calls Tryd.prog 14 #[.int .i64 M] w fun e w' => e = .returned (.int .i64 n) ∧ Below w.heap.size w w')
    (hC : ∀ w, Laid w → Calls Tryd.prog 8 #[.int .u8 b] w fun e w' => e = .returned (.int .i64 V) ∧ Below w.heap.size w w')
    (h7 : decide (V ≤ 7) = true) (h : (n = 1 ∧ decide (2 ≤ V) = true) ∨ (n = 2 ∧ decide (2 ≤ V) = true) ∨ (n = 3 ∧ decide (3 ≤ V) = true))
    (w : World) (hL : Laid w) : Calls Tryd.prog 4 #[.int .u8 b] w (LawEnd w) := by
  have HO := Lib.hid hO
  have HY := Lib.hid hY
  have HN := Lib.hid hN
  have HC := Lib.hid hC
  have HL := Lib.hid hL
  clear hO hC hL hY hN
  rcases h with ⟨rfl, h2⟩ | ⟨rfl, h2⟩ | ⟨rfl, h2⟩
  all_goals
    skip
    go_enter Tryd.func4, Tryd.ntmps4
    go_wp2_with fail
    ((with_reducible refine (HO.out _).mono ?_); rintro _ w1 ⟨rfl, hb⟩)
    have hz := hb.size
    (try simp only [World.size_alloc, World.size_setCell, World.size_drew] at hz)
    have hB' : Below w.heap.size w w1 := by
        refine kb ?_ hb
        go_grown
    clear hb hz
    have hB := hB'; clear hB'
    have hsz := hB.size
    go_wp2_with fail
    ((with_reducible refine (HY.out _).mono ?_); rintro _ w2 ⟨rfl, hb⟩)
    have T : w2.cell? ⟨w1.heap.size, 0, none⟩ = some (.string S) ∧ w2.cell? ⟨w1.heap.size, 1, none⟩ = some (.int .i64 M) ∧ w2.cell? ⟨w1.heap.size, 2, none⟩ = some (.int .i64 K) := by
        refine ⟨?_, ?_, ?_⟩ <;> refine kc hb ?_ <;> (go_simp; first | done | rfl)
    have hz := hb.size
    (try simp only [World.size_alloc, World.size_setCell, World.size_drew] at hz)
    have hlx' : w1.heap.size < w2.heap.size := by omega
    have hB' : Below w.heap.size w w2 := by
        refine kb ?_ hb
        go_grown
    clear hB hsz
    clear hb hz
    obtain ⟨hx_0, hx_1, hx_2⟩ := T
    have hlx := hlx'; clear hlx'
    have hnx0 : ¬ (w1.heap.size = w2.heap.size) := by omega
    have hnx1 : ¬ (w1.heap.size = w2.heap.size + 1) := by omega
    have hkx1 : w1.heap.size < w2.heap.size + 1 := by omega
    have hnx2 : ¬ (w1.heap.size = w2.heap.size + 1 + 1) := by omega
    have hkx2 : w1.heap.size < w2.heap.size + 1 + 1 := by omega
    have hB := hB'; clear hB'
    have hsz := hB.size
    go_wp2_with fail
    ((with_reducible refine (HN.out _).mono ?_); rintro _ w3 ⟨rfl, hb⟩)
    have T : w3.cell? ⟨w1.heap.size, 0, none⟩ = some (.string S) ∧ w3.cell? ⟨w1.heap.size, 1, none⟩ = some (.int .i64 M) ∧ w3.cell? ⟨w1.heap.size, 2, none⟩ = some (.int .i64 K) := by
        refine ⟨?_, ?_, ?_⟩ <;> refine kc hb ?_ <;> (go_simp; first | done | rfl)
    have hz := hb.size
    (try simp only [World.size_alloc, World.size_setCell, World.size_drew] at hz)
    have hlx' : w1.heap.size < w3.heap.size := by omega
    have hB' : Below w.heap.size w w3 := by
        refine kb ?_ hb
        go_grown
    clear hx_0 hx_1 hx_2 hlx hnx0 hnx1 hkx1 hnx2 hkx2 hB hsz
    clear hb hz
    obtain ⟨hx_0, hx_1, hx_2⟩ := T
    have hlx := hlx'; clear hlx'
    have hnx0 : ¬ (w1.heap.size = w3.heap.size) := by omega
    have hnx1 : ¬ (w1.heap.size = w3.heap.size + 1) := by omega
    have hkx1 : w1.heap.size < w3.heap.size + 1 := by omega
    have hnx2 : ¬ (w1.heap.size = w3.heap.size + 1 + 1) := by omega
    have hkx2 : w1.heap.size < w3.heap.size + 1 + 1 := by omega
    have hB := hB'; clear hB'
    have hsz := hB.size
    go_wp2_with fail
    ((with_reducible refine (HC.out _ (HL.out.below (by go_grown))).mono ?_); rintro _ w4 ⟨rfl, hb⟩)
    have T : w4.cell? ⟨w1.heap.size, 0, none⟩ = some (.string S) ∧ w4.cell? ⟨w1.heap.size, 1, none⟩ = some (.int .i64 M) ∧ w4.cell? ⟨w1.heap.size, 2, none⟩ = some (.int .i64 K) := by
        refine ⟨?_, ?_, ?_⟩ <;> refine kc hb ?_ <;> (go_simp; first | done | rfl)
    have hz := hb.size
    (try simp only [World.size_alloc, World.size_setCell, World.size_drew] at hz)
    have hlx' : w1.heap.size < w4.heap.size := by omega
    have hB' : Below w.heap.size w w4 := by
        refine kb ?_ hb
        go_grown
    clear hx_0 hx_1 hx_2 hlx hnx0 hnx1 hkx1 hnx2 hkx2 hB hsz
    clear hb hz
    obtain ⟨hx_0, hx_1, hx_2⟩ := T
    have hlx := hlx'; clear hlx'
    have hnx0 : ¬ (w1.heap.size = w4.heap.size) := by omega
    have hnx1 : ¬ (w1.heap.size = w4.heap.size + 1) := by omega
    have hkx1 : w1.heap.size < w4.heap.size + 1 := by omega
    have hnx2 : ¬ (w1.heap.size = w4.heap.size + 1 + 1) := by omega
    have hkx2 : w1.heap.size < w4.heap.size + 1 + 1 := by omega
    have hB := hB'; clear hB'
    have hsz := hB.size
    go_wp2_with fail
    ((with_reducible refine (HC.out _ (HL.out.below (by go_grown))).mono ?_); rintro _ w5 ⟨rfl, hb⟩)
    have T : w5.cell? ⟨w1.heap.size, 0, none⟩ = some (.string S) ∧ w5.cell? ⟨w1.heap.size, 1, none⟩ = some (.int .i64 M) ∧ w5.cell? ⟨w1.heap.size, 2, none⟩ = some (.int .i64 K) := by
        refine ⟨?_, ?_, ?_⟩ <;> refine kc hb ?_ <;> (go_simp; first | done | rfl)
    have hz := hb.size
    (try simp only [World.size_alloc, World.size_setCell, World.size_drew] at hz)
    have hlx' : w1.heap.size < w5.heap.size := by omega
    have hB' : Below w.heap.size w w5 := by
        refine kb ?_ hb
        go_grown
    clear hx_0 hx_1 hx_2 hlx hnx0 hnx1 hkx1 hnx2 hkx2 hB hsz
    clear hb hz
    obtain ⟨hx_0, hx_1, hx_2⟩ := T
    have hlx := hlx'; clear hlx'
    have hnx0 : ¬ (w1.heap.size = w5.heap.size) := by omega
    have hnx1 : ¬ (w1.heap.size = w5.heap.size + 1) := by omega
    have hkx1 : w1.heap.size < w5.heap.size + 1 := by omega
    have hnx2 : ¬ (w1.heap.size = w5.heap.size + 1 + 1) := by omega
    have hkx2 : w1.heap.size < w5.heap.size + 1 + 1 := by omega
    have hB := hB'; clear hB'
    have hsz := hB.size
    go_wp2_with fail
    ((with_reducible refine (awake_c _).mono ?_); rintro _ w6 ⟨rfl, hb⟩)
    have T : w6.cell? ⟨w1.heap.size, 0, none⟩ = some (.string S) ∧ w6.cell? ⟨w1.heap.size, 1, none⟩ = some (.int .i64 M) ∧ w6.cell? ⟨w1.heap.size, 2, none⟩ = some (.int .i64 K) := by
        refine ⟨?_, ?_, ?_⟩ <;> refine kc hb ?_ <;> (go_simp; first | done | rfl)
    have hz := hb.size
    (try simp only [World.size_alloc, World.size_setCell, World.size_drew] at hz)
    have hlx' : w1.heap.size < w6.heap.size := by omega
    have hB' : Below w.heap.size w w6 := by
        refine kb ?_ hb
        go_grown
    clear hx_0 hx_1 hx_2 hlx hnx0 hnx1 hkx1 hnx2 hkx2 hB hsz
    clear hb hz
    obtain ⟨hx_0, hx_1, hx_2⟩ := T
    have hlx := hlx'; clear hlx'
    have hnx0 : ¬ (w1.heap.size = w6.heap.size) := by omega
    have hnx1 : ¬ (w1.heap.size = w6.heap.size + 1) := by omega
    have hkx1 : w1.heap.size < w6.heap.size + 1 := by omega
    have hnx2 : ¬ (w1.heap.size = w6.heap.size + 1 + 1) := by omega
    have hkx2 : w1.heap.size < w6.heap.size + 1 + 1 := by omega
    have hB := hB'; clear hB'
    have hsz := hB.size
    go_wp2
    go_ret
    exact ⟨rfl, by go_grown⟩
set_option maxRecDepth 100000 in
theorem back_no (b : Nat) (hb : b < 256)
    (hO : ∀ w, Calls Tryd.prog 6 #[.int .u8 b] w fun e w' => e = .returned (.tuple #[.agg #[.string ⟨#[]⟩, .int .i64 0, .int .i64 0], .int .i64 13]) ∧ Below w.heap.size w w')
    (w : World) : Calls Tryd.prog 4 #[.int .u8 b] w (LawEnd w) := by
  have HO := Lib.hid hO
  clear hO

  go_enter Tryd.func4, Tryd.ntmps4
  go_wp2_with fail
  ((with_reducible refine (HO.out _).mono ?_); rintro _ w1 ⟨rfl, hb⟩)
  have hz := hb.size
  (try simp only [World.size_alloc, World.size_setCell, World.size_drew] at hz)
  have hB' : Below w.heap.size w w1 := by
      refine kb ?_ hb
      go_grown
  clear hb hz
  have hB := hB'; clear hB'
  have hsz := hB.size
  go_wp2_with fail
  ((with_reducible refine (awake_c _).mono ?_); rintro _ w4 ⟨rfl, hb⟩)
  have hz := hb.size
  (try simp only [World.size_alloc, World.size_setCell, World.size_drew] at hz)
  have hB' : Below w.heap.size w w4 := by
      refine kb ?_ hb
      go_grown
  clear hB hsz
  clear hb hz
  have hB := hB'; clear hB'
  have hsz := hB.size
  go_wp2
  go_ret
  exact ⟨rfl, by go_grown⟩
theorem back_walk (b : Nat) (hb : b < 256) (w : World) (hL : Laid w) : Calls Tryd.prog 4 #[.int .u8 b] w (LawEnd w) := by
  cases ho : isOp b
  · have hv : ofV b = .tuple #[.agg #[.string ⟨#[]⟩, .int .i64 0, .int .i64 0], .int .i64 13] := by unfold ofV opC errOf; rw [ho]; rfl
    exact back_no b hb (fun w => by rw [← hv]; exact of_c b hb w) w
  · have hv : ofV b = .tuple #[.agg #[.string ⟨(nm b).toArray⟩, .int .i64 (md b), .int .i64 (kindP (nm b) (md b))], .int .i64 0] := by unfold ofV opC errOf; rw [ho]; rfl
    obtain ⟨f1, f2, f3, f4, f5⟩ := back_facts ⟨b, hb⟩ ho
    simp only [] at f1 f2 f3 f4 f5
    refine back_op b hb ⟨(nm b).toArray⟩ (md b) (kindP (nm b) (md b)) (cycV b) (lenD (md b)) (by show (nm b).toArray.size = 3; simp [f3]) (fun w => by rw [← hv]; exact of_c b hb w) (fun w => ?_) (fun w => lenp_c _ w) (fun w hw => cycp_c b hb w hw) f4 f5 w hL
    have := byte_c ⟨(nm b).toArray⟩ (md b) w
    rw [toList_mk, f1, f2] at this
    exact this
end Go.Proofs.YtnigcmicimdphaaDoor
