/-
  The program's table of steps: its rows, and which of them an opcode meets.
-/
import Derived.Test.YtcplegelppfdeaaDoorEnds14
import Derived.Test.YtcplegelppfdeaaDoorPace
set_option linter.unusedSimpArgs false
set_option linter.unusedVariables false
namespace Go.Proofs.YtcplegelppfdeaaDoor
open Go.RowKit Go.PlainAid

/-- The rows: a name's letters, a mode, a kind, the first steps, which end. -/
def stepT : List (List UInt8 × Int × Int × List Int × Int) := [
  ([], 2, 1, [3], 0), ([], 3, 1, [1], 1), ([], 4, 1, [1, 4], 1), ([], 5, 1, [1, 4], 1), ([], 6, 1, [1, 2], 1),
  ([], 7, 1, [1, 2, 7], 1), ([], 8, 1, [1, 2, 7], 1), ([], 9, 1, [1, 4, 5, 6], 1), ([], 10, 1, [1, 5, 6, 7], 1), ([], 3, 2, [1], 2),
  ([], 4, 2, [1, 4], 2), ([], 5, 2, [1, 4], 2), ([], 6, 2, [1, 2], 2), ([], 7, 2, [1, 2, 7], 2), ([], 8, 2, [1, 2, 7], 2),
  ([], 9, 2, [1, 4, 5, 6], 2), ([], 10, 2, [1, 5, 6, 7], 2), ([], 3, 3, [1], 3), ([], 4, 3, [1, 4], 3), ([], 6, 3, [1, 2], 3),
  ([], 7, 3, [1, 2, 7], 3), ([74, 77, 80], 6, 4, [1, 24], 0), ([74, 77, 80], 11, 4, [1, 2, 22, 23], 0), ([74, 83, 82], 6, 4, [1, 13, 14, 15, 24], 0), ([82, 84, 83], 0, 4, [0, 13, 18, 19, 25], 0),
  ([82, 84, 73], 0, 4, [0, 13, 20, 18, 19], 0), ([80, 72, 65], 0, 4, [0, 17], 0), ([80, 72, 80], 0, 4, [0, 16], 0), ([80, 76, 65], 0, 4, [0, 13, 21], 0), ([80, 76, 80], 0, 4, [0, 13, 20], 0),
  ([66, 82, 75], 0, 4, [25], 4), ([], 12, 4, [26, 27, 28], 0), ([], 0, 0, [0], 0), ([], 1, 0, [0], 0)]
def sN (n : Nat) : List UInt8 × Int × Int × List Int × Int := stepT.getD n ([], 0, 0, [], 0)
def firL (n : Nat) : List Int := (sN n).2.2.2.1
def endN (n : Nat) : Int := (sN n).2.2.2.2
/-- A row's cells, v being where its first steps lie. -/
def stepC (n : Nat) (v : Value) : Array Value := #[.string ⟨(sN n).1.toArray⟩, .int .i64 (sN n).2.1, .int .i64 (sN n).2.2.1, v, .int .i64 (endN n)]
/-- The program's table of steps lies in its variable. -/
def LaidRw (w : World) : Prop := ∃ A t fr, w.heap[0]? = some (.cells A t fr) ∧ A.size = 170 ∧ ∀ n, n < 34 → ∃ v, A.extract (5 * n) (5 * n + 5) = stepC n v ∧ HoldsW nE 1 w v (firL n)
theorem LaidRw.below {w u : World} (h : LaidRw w) (hb : Below w.heap.size w u) : LaidRw u := by
  obtain ⟨A, t, fr, h1, h2, h3⟩ := h
  refine ⟨A, t, fr, (hb.block 0 (Array.getElem?_eq_some_iff.1 h1).1).trans h1, h2, fun n hn => ?_⟩
  obtain ⟨v, h4, h5⟩ := h3 n hn
  exact ⟨v, h4, h5.below hb⟩
theorem under_rows : Tryd.prog.underlying 45 = some (.array 34 44) := by kernel_rfl
theorem agg_row14 (w : World) : (isAgg 44).run Tryd.prog w = .ok true w := by kernel_rfl
theorem size_row14 (w : World) : (sizeOf 44).run Tryd.prog w = .ok 5 w := by kernel_rfl
theorem info_rows : (Tryd.prog.info? 45).map (·.size) = some 170 := by kernel_rfl
theorem run_row_index {A C : Array Value} (n : Nat) (hn : n < 34) (h : A.extract (5 * n) (5 * n + 5) = C) (w : World) : (Instr.index 45 (.agg A) (.int .i64 n)).run Tryd.prog w = .ok (.agg C) w := by
  have e : n * 5 = 5 * n := by omega
  have hi : (0 : Int) ≤ (n : Int) ∧ (n : Int) < (34 : Nat) := by omega
  have hi' : ¬ 34 ≤ n := by omega
  simp [Instr.index, run_underlying under_rows, asIntOf, hi, hi', part, agg_row14, size_row14, go_sem, e, h]
theorem run_key_eql (a a' : ByteArray) (b b' c c' : Int) (w : World) : (binOp .eql 42 (.agg #[.string a, .int .i64 b, .int .i64 c]) (.agg #[.string a', .int .i64 b', .int .i64 c'])).run Tryd.prog w = .ok (.bool (a.toList == a'.toList && (b == b' && c == c'))) w := by
  go_simp
  by_cases h1 : a.toList = a'.toList <;> by_cases h2 : b = b' <;> by_cases h3 : c = c' <;> simp [h1, h2, h3]
/-- Whether a row is an opcode's: by its name, mode and kind; by mode and kind, without a name. -/
def r1 (S : List UInt8) (M K : Int) (n : Nat) : Bool := (sN n).1 == S && ((sN n).2.1 == M && (sN n).2.2.1 == K)
def r2 (M K : Int) (n : Nat) : Bool := (sN n).1 == [] && ((sN n).2.1 == M && (sN n).2.2.1 == K)
theorem end_ok : ∀ n : Fin 34, decide (0 ≤ endN n.val ∧ endN n.val ≤ 5) = true := by decide +kernel
theorem fir_len : ∀ n : Fin 34, decide ((firL n.val).length ≤ 5) = true := by decide +kernel
theorem fir_pos : ∀ n : Fin 34, decide (0 < (firL n.val).length) = true := by decide +kernel
theorem endL_len : ∀ n : Fin 34, decide ((endL (endN n.val)).length ≤ 5) = true := by decide +kernel
/-- The first row that an opcode meets has its steps. -/
theorem prog_rows : ∀ b : Fin 256, (!isOp b.val || match (List.range 34).find? fun n => r1 (nm b.val) (md b.val) (kindP (nm b.val) (md b.val)) n || r2 (md b.val) (kindP (nm b.val) (md b.val)) n with
    | some n => progL b.val == firL n ++ endL (endN n)
    | none => false) = true := by decide +kernel
theorem prog_row {b : Nat} (hb : b < 256) (ho : isOp b = true) {n : Nat} (hn : n < 34) (h : (r1 (nm b) (md b) (kindP (nm b) (md b)) n || r2 (md b) (kindP (nm b) (md b)) n) = true) (hl : ∀ m, m < n → (r1 (nm b) (md b) (kindP (nm b) (md b)) m || r2 (md b) (kindP (nm b) (md b)) m) = false) :
    progL b = firL n ++ endL (endN n) := by
  have := prog_rows ⟨b, hb⟩
  simp only [ho, Bool.not_true, Bool.false_or] at this
  rw [(List.find?_range_eq_some (p := fun n => r1 (nm b) (md b) (kindP (nm b) (md b)) n || r2 (md b) (kindP (nm b) (md b)) n) (n := 34) (i := n)).2 ⟨h, List.mem_range.2 hn, fun m hm => by rw [hl m hm]; rfl⟩] at this
  simpa using this
theorem prog_met {b : Nat} (hb : b < 256) (ho : isOp b = true) (hl : ∀ m, m < 34 → (r1 (nm b) (md b) (kindP (nm b) (md b)) m || r2 (md b) (kindP (nm b) (md b)) m) = false) : False := by
  have := prog_rows ⟨b, hb⟩
  simp only [ho, Bool.not_true, Bool.false_or] at this
  rw [(List.find?_range_eq_none (p := fun n => r1 (nm b) (md b) (kindP (nm b) (md b)) n || r2 (md b) (kindP (nm b) (md b)) n) (n := 34)).2 fun m hm => by rw [hl m hm]; rfl] at this
  cases this
/-- An append of numbers, wherever they lie, to numbers of a row of the caller's own. -/
theorem wpList_append_o {P : Program} (w : World) {ops : Array Oper} {rest : List Oper} {o : Oper} {a : Act} {Q : Exit → Act → World → Prop} (hgd : o.guard = none) (s x : Operand) (t : TypeId)
    (ho : o.op = .call { callee := .builtin .append, args := #[s, x], argTypes := #[t, t] })
    (e : TypeId) (i : TypeInfo) (z : Value) (bytes : Nat) (ht : P.underlying t = some (.slice e)) (hi : P.info? e = some i) (hz : i.zero = some z)
    (hsize : i.size = 1) (hby : i.bytes = bytes) (hzs : z.cells.size = 1) (B : Nat) (hB : B ≤ w.heap.size) (k : List Int) (V : Value) (hs : a.eval s = V) (hV : w.ownsRow B e 1 V k.length (k.flatMap nE)) (l : List Int) (X : Value) (hx : a.eval x = X) (hX : HoldsW nE 1 w X l)
    (h63 : k.length + l.length ≤ maxLen) (hbytes : (k.length + l.length) * bytes ≤ 140737488355328)
    (h : ∀ v' w', w'.ownsRow B e 1 v' (k ++ l).length ((k ++ l).flatMap nE) → w.grownBy w' V.ownBlock → wpList P ops Q rest (a.put o.dst v') w') : wpList P ops Q (o :: rest) a w := by
  obtain ⟨p, c, rfl⟩ := hX.form
  cases p with
  | none =>
    have h0 : l = [] := by
      rcases hX with ⟨_, e⟩ | ⟨g, o', cap, e, _⟩
      · exact e
      · cases e
    subst h0
    refine wpList_plain hgd fun K hK => ?_
    have hr : (Builtin.append_ #[t, t] o.type #[V, .slice none 0 c]).run P w = .ok V w := by
      rcases hV.2 with ⟨rfl, _⟩ | ⟨g, cap, cur, rfl, _, _, hnc, _⟩
      · simp [Builtin.append_, run_underlying ht, sizeOf, typeInfo, hi, Builtin.lenOf, Builtin.firstCells, loadCells, loadCellsFrom]
      · simp [Builtin.append_, run_underlying ht, sizeOf, typeInfo, hi, Builtin.lenOf, Builtin.firstCells, loadCells, loadCellsFrom, storeCells, hnc]
    unfold Oper.wp execOp
    simp only [ho, resolve, invoke, builtin, Sem.run_bind, Sem.run_pure, Result.andThen_ok, List.map_toArray, List.map_cons, List.map_nil, hs, hx]
    dsimp only [List.length_nil] at *
    rw [hr]
    refine hK _ _ (h _ w ?_ (World.grownBy.refl _ _))
    rw [List.append_nil]
    exact hV
  | some ad =>
    obtain ⟨g, o', sp⟩ := ad
    have hsx : ∀ j u, (l.flatMap nE)[j]? = some u → w.cell? ((⟨g, o', sp⟩ : Addr).add j) = some u := by
      rcases hX with ⟨_, e⟩ | ⟨g', o'', cap, e, _, hc⟩
      · subst e; intro j u hu; simp at hu
      · injection e with e1 e2 e3
        injection e1 with e1
        cases e1
        exact holds_flatN hc
    refine wpList_append_own _ hgd s x t ho B e i z 1 bytes ht hi hz hsize hby hzs (by decide) V k.length (k.flatMap nE) hs hV ⟨g, o', sp⟩ l.length c (l.flatMap nE) hx (by rw [flat_len8 nE_len]) hsx (one_cells8 nE_one _) h63 hbytes hB ?_
    intro v' w' h1 h2 _
    refine h v' w' ?_ h2
    rw [List.length_append, List.flatMap_append]
    exact h1
end Go.Proofs.YtcplegelppfdeaaDoor
