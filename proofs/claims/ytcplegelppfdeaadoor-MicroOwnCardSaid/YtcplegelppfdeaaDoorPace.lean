/-
  The program's table of cycles, and which row of it an opcode meets.
-/
import Derived.Test.YtcplegelppfdeaaDoorOf
set_option linter.unusedSimpArgs false
set_option linter.unusedVariables false
namespace Go.Proofs.YtcplegelppfdeaaDoor
open Go.RowKit Go.PlainAid

/-- The rows: a name's letters, a mode, a kind, cycles. -/
def paceL : List (List UInt8 × Int × Int × Int) := [
  ([], 0, 0, 2), ([], 1, 0, 2),
  ([], 2, 1, 2), ([], 3, 1, 3), ([], 4, 1, 4), ([], 5, 1, 4), ([], 6, 1, 4), ([], 7, 1, 4), ([], 8, 1, 4), ([], 9, 1, 6), ([], 10, 1, 5),
  ([], 3, 2, 3), ([], 4, 2, 4), ([], 5, 2, 4), ([], 6, 2, 4), ([], 7, 2, 5), ([], 8, 2, 5), ([], 9, 2, 6), ([], 10, 2, 6),
  ([], 3, 3, 5), ([], 4, 3, 6), ([], 6, 3, 6), ([], 7, 3, 7),
  ([], 12, 4, 2), ([74, 77, 80], 6, 4, 3), ([74, 77, 80], 11, 4, 5),
  ([80, 72, 65], 0, 4, 3), ([80, 72, 80], 0, 4, 3), ([80, 76, 65], 0, 4, 4), ([80, 76, 80], 0, 4, 4),
  ([74, 83, 82], 6, 4, 6), ([82, 84, 73], 0, 4, 6), ([82, 84, 83], 0, 4, 6), ([66, 82, 75], 0, 4, 7)]
def pN (n : Nat) : List UInt8 × Int × Int × Int := paceL.getD n ([], 0, 0, 0)
def paceC (n : Nat) : Array Value := #[.string ⟨(pN n).1.toArray⟩, .int .i64 (pN n).2.1, .int .i64 (pN n).2.2.1, .int .i64 (pN n).2.2.2]
def paceA : Array Value := ((List.range 34).flatMap fun n => (paceC n).toList).toArray
def samePace (c : Array Value) (n : Nat) : Bool := match c.toList with
  | [.string s, .int .i64 a, .int .i64 b, .int .i64 k] => s.data.toList == (pN n).1 && (a == (pN n).2.1 && (b == (pN n).2.2.1 && k == (pN n).2.2.2))
  | _ => false
theorem samePace_eq {c : Array Value} {n : Nat} (h : samePace c n = true) : c = paceC n := by
  unfold samePace at h
  split at h
  · rename_i s a b k e
    simp only [Bool.and_eq_true, beq_iff_eq] at h
    unfold paceC
    rw [← h.1, ← h.2.1, ← h.2.2.1, ← h.2.2.2]
    exact congrArg List.toArray e
  · cases h
theorem paceA_all : ∀ n : Fin 34, samePace (paceA.extract (4 * n.val) (4 * n.val + 4)) n.val = true := by decide +kernel
theorem paceA_at (n : Nat) (hn : n < 34) : paceA.extract (4 * n) (4 * n + 4) = paceC n := samePace_eq (paceA_all ⟨n, hn⟩)
theorem paceA_size : paceA.size = 136 := by kernel_rfl

theorem under_paces : Tryd.prog.underlying 59 = some (.array 34 58) := by kernel_rfl
theorem agg_pace (w : World) : (isAgg 58).run Tryd.prog w = .ok true w := by kernel_rfl
theorem size_pace (w : World) : (sizeOf 58).run Tryd.prog w = .ok 4 w := by kernel_rfl
theorem info_paces : (Tryd.prog.info? 59).map (·.size) = some 136 := by kernel_rfl
theorem run_pace_index (n : Nat) (hn : n < 34) (w : World) : (Instr.index 59 (.agg paceA) (.int .i64 n)).run Tryd.prog w = .ok (.agg (paceC n)) w := by
  have h := paceA_at n hn
  have e : n * 4 = 4 * n := by omega
  generalize paceA = A at *
  generalize paceC n = C at *
  have hi : (0 : Int) ≤ (n : Int) ∧ (n : Int) < (34 : Nat) := by omega
  have hi' : ¬ 34 ≤ n := by omega
  simp [Instr.index, run_underlying under_paces, asIntOf, hi, hi', part, agg_pace, size_pace, go_sem, e, h]
theorem run_op_eql (a a' : ByteArray) (b b' c c' : Int) (w : World) : (binOp .eql 37 (.agg #[.string a, .int .i64 b, .int .i64 c]) (.agg #[.string a', .int .i64 b', .int .i64 c'])).run Tryd.prog w = .ok (.bool (a.toList == a'.toList && (b == b' && c == c'))) w := by
  go_simp
  by_cases h1 : a.toList = a'.toList <;> by_cases h2 : b = b' <;> by_cases h3 : c = c' <;> simp [h1, h2, h3]
/-- Whether a row is an opcode's: by its name, mode and kind; by mode and kind, without a name. -/
def t1 (S : List UInt8) (M K : Int) (n : Nat) : Bool := (pN n).1 == S && ((pN n).2.1 == M && (pN n).2.2.1 == K)
def t2 (M K : Int) (n : Nat) : Bool := (pN n).1 == [] && ((pN n).2.1 == M && (pN n).2.2.1 == K)
def cycP (S : List UInt8) (M K : Int) : Int := match (List.range 34).find? fun n => t1 S M K n || t2 M K n with
  | some n => (pN n).2.2.2
  | none => 0
end Go.Proofs.YtcplegelppfdeaaDoor
