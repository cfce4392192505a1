/-
  The program's memory: an array of 65536 bytes behind a pointer; what a store makes of it; arrays loaded whole, and compared.
-/
import Derived.Test.YtcilnbkmaoneaaaDoorCorr8
import Derived.Test.YtcilnbkmaoneaaaDoorKindp8
import Derived.Test.YtcilnbkmaoneaaaDoorEqArr
import Derived.Laws.Tables
set_option linter.unusedSimpArgs false
set_option linter.unusedVariables false
namespace Go.Proofs.YtcilnbkmaoneaaaDoor
open Go.RowKit Go.PlainAid

/-- The cells of an array that hold these bytes. -/
structure Ar (A : Array Value) (M : Int → Int × Int) : Prop where
  sz : A.size = 131072
  at0 : ∀ k : Nat, k < 65536 → A[k * 2]? = some (.int .u8 (M k).1)
  at1 : ∀ k : Nat, k < 65536 → A[k * 2 + 1]? = some (.int .u8 (M k).2)
theorem Ar.zero : Ar zeroA (fun _ => (0, 0)) := ⟨zeroA_size, fun k h => zeroA_get _ (by omega), fun k h => zeroA_get _ (by omega)⟩
theorem Ar.one {A : Array Value} {M : Int → Int × Int} (h : Ar A M) : A.all (·.oneCell') = true := by
  refine Array.all_eq_true.2 fun i hi => ?_
  have hz := h.sz
  by_cases e : i % 2 = 0
  · have := h.at0 (i / 2) (by omega)
    rw [show i / 2 * 2 = i by omega, Array.getElem?_eq_getElem hi] at this
    rw [Option.some.inj this]; rfl
  · have := h.at1 (i / 2) (by omega)
    rw [show i / 2 * 2 + 1 = i by omega, Array.getElem?_eq_getElem hi] at this
    rw [Option.some.inj this]; rfl
/-- The program's memory at the block mb: its bytes lie in the block bb. -/
structure Pm (mb bb : Nat) (w : World) (M : Int → Int × Int) : Prop where
  c0 : w.cell? ⟨mb, 0, none⟩ = some (.pointer (some ⟨bb, 0, none⟩))
  row : ∃ A t, w.heap[bb]? = some (.cells A t (0, 0)) ∧ Ar A M
  ne : mb ≠ bb
  nz : bb ≠ 0
theorem Pm.lt {mb bb : Nat} {w : World} {M : Int → Int × Int} (h : Pm mb bb w M) : bb < w.heap.size := by
  obtain ⟨A, t, h, _⟩ := h.row
  exact (Array.getElem?_eq_some_iff.1 h).1
theorem Pm.at0 {mb bb : Nat} {w : World} {M : Int → Int × Int} (h : Pm mb bb w M) (k : Nat) (hk : k < 65536) : w.cell? ⟨bb, k * 2, none⟩ = some (.int .u8 (M k).1) := by
  obtain ⟨A, t, h, ha⟩ := h.row
  rw [cell_of_row w bb _ A t _ h]
  exact ha.at0 k hk
theorem Pm.at1 {mb bb : Nat} {w : World} {M : Int → Int × Int} (h : Pm mb bb w M) (k : Nat) (hk : k < 65536) : w.cell? ⟨bb, k * 2 + 1, none⟩ = some (.int .u8 (M k).2) := by
  obtain ⟨A, t, h, ha⟩ := h.row
  rw [cell_of_row w bb _ A t _ h]
  exact ha.at1 k hk
theorem Pm.free {mb bb : Nat} {w : World} {M : Int → Int × Int} (h : Pm mb bb w M) (j : Nat) : w.frozen? ⟨bb, j, none⟩ = false := by
  obtain ⟨A, t, h, ha⟩ := h.row
  exact frozen_of_row w bb j A t h
theorem Pm.keep {mb bb : Nat} {w u : World} {M : Int → Int × Int} (h : Pm mb bb w M) (h1 : u.heap[mb]? = w.heap[mb]?) (h2 : u.heap[bb]? = w.heap[bb]?) : Pm mb bb u M := by
  obtain ⟨A, t, h3, ha⟩ := h.row
  exact ⟨(World.cell?_of_block h1).trans h.c0, ⟨A, t, h2.trans h3, ha⟩, h.ne, h.nz⟩
theorem Pm.below {mb bb : Nat} {w u : World} {M : Int → Int × Int} (h : Pm mb bb w M) (hb : Below w.heap.size w u) : Pm mb bb u M :=
  h.keep (hb.block mb (klt h.c0)) (hb.block bb h.lt)
theorem ar_set0 {A : Array Value} {M : Int → Int × Int} (h : Ar A M) (k : Nat) (hk : k < 65536) (v : Int) : Ar (A.setIfInBounds (k * 2) (.int .u8 v)) (setM M k (v, (M k).2)) := by
  have hz := h.sz
  refine ⟨by simp [hz], fun j hj => ?_, fun j hj => ?_⟩
  · unfold setM
    by_cases e : j = k
    · subst e
      rw [if_pos rfl, Array.getElem?_setIfInBounds_self, if_pos (by omega)]
    · rw [if_neg (by omega), Array.getElem?_setIfInBounds_ne (by omega)]
      exact h.at0 j hj
  · unfold setM
    rw [Array.getElem?_setIfInBounds_ne (by omega)]
    by_cases e : j = k
    · subst e
      rw [if_pos rfl]; exact h.at1 j hj
    · rw [if_neg (by omega)]
      exact h.at1 j hj
theorem ar_set1 {A : Array Value} {M : Int → Int × Int} (h : Ar A M) (k : Nat) (hk : k < 65536) (v : Int) : Ar (A.setIfInBounds (k * 2 + 1) (.int .u8 v)) (setM M k ((M k).1, v)) := by
  have hz := h.sz
  refine ⟨by simp [hz], fun j hj => ?_, fun j hj => ?_⟩
  · unfold setM
    rw [Array.getElem?_setIfInBounds_ne (by omega)]
    by_cases e : j = k
    · subst e
      rw [if_pos rfl]; exact h.at0 j hj
    · rw [if_neg (by omega)]
      exact h.at0 j hj
  · unfold setM
    by_cases e : j = k
    · subst e
      rw [if_pos rfl, Array.getElem?_setIfInBounds_self, if_pos (by omega)]
    · rw [if_neg (by omega), Array.getElem?_setIfInBounds_ne (by omega)]
      exact h.at1 j hj
theorem Pm.set0 {mb bb : Nat} {w : World} {M : Int → Int × Int} (h : Pm mb bb w M) (k : Nat) (hk : k < 65536) (v : Int) : Pm mb bb (w.setCell ⟨bb, k * 2, none⟩ (.int .u8 v)) (setM M k (v, (M k).2)) := by
  obtain ⟨A, t, h3, ha⟩ := h.row
  refine ⟨?_, ⟨_, t, heap_setCell_same w bb (k * 2) A t _ h3, ar_set0 ha k hk v⟩, h.ne, h.nz⟩
  exact (World.cell?_of_block (heap_setCell_other w ⟨bb, k * 2, none⟩ mb _ h.ne)).trans h.c0
theorem Pm.set1 {mb bb : Nat} {w : World} {M : Int → Int × Int} (h : Pm mb bb w M) (k : Nat) (hk : k < 65536) (v : Int) : Pm mb bb (w.setCell ⟨bb, k * 2 + 1, none⟩ (.int .u8 v)) (setM M k ((M k).1, v)) := by
  obtain ⟨A, t, h3, ha⟩ := h.row
  refine ⟨?_, ⟨_, t, heap_setCell_same w bb (k * 2 + 1) A t _ h3, ar_set1 ha k hk v⟩, h.ne, h.nz⟩
  exact (World.cell?_of_block (heap_setCell_other w ⟨bb, k * 2 + 1, none⟩ mb _ h.ne)).trans h.c0
theorem setM_twice (M : Int → Int × Int) (k : Int) (x y : Int × Int) : setM (setM M k x) k y = setM M k y := by
  funext b
  unfold setM
  by_cases e : b = k <;> simp [e]
theorem setM_at (M : Int → Int × Int) (k : Int) (x : Int × Int) : setM M k x k = x := by
  unfold setM; rw [if_pos rfl]
theorem Pm.set {mb bb : Nat} {w : World} {M : Int → Int × Int} (h : Pm mb bb w M) (k : Nat) (hk : k < 65536) (v t : Int) : Pm mb bb ((w.setCell ⟨bb, k * 2, none⟩ (.int .u8 v)).setCell ⟨bb, k * 2 + 1, none⟩ (.int .u8 t)) (setM M k (v, t)) := by
  have := (h.set0 k hk v).set1 k hk t
  rw [setM_at, setM_twice] at this
  exact this
/-- Behind a store into its bytes all other blocks are as they were. -/
theorem grown_set8 {w u : World} {bb o : Nat} {v : Value} (h : w.grownBy u (some bb)) : w.grownBy (u.setCell ⟨bb, o, none⟩ v) (some bb) :=
  ⟨h.os, h.tape, h.output, by rw [World.size_setCell]; exact h.size, fun b hb hne => (heap_setCell_other u ⟨bb, o, none⟩ b v (by simpa using hne)).trans (h.block b hb hne)⟩
theorem grown_below {w u : World} {g : Option Nat} (h : Below w.heap.size w u) : w.grownBy u g := ⟨h.os, h.tape, h.output, h.size, fun b hb _ => h.block b hb⟩
/-- What a call that writes the program's memory answers, and what stands behind it. -/
def MemEnd (mb bb : Nat) (w : World) (E : Int) (M : Int → Int × Int) : Ending → World → Prop := fun e w' => e = .returned (.int .i64 E) ∧ w.grownBy w' (some bb) ∧ Pm mb bb w' M
theorem memEnd_same {mb bb : Nat} {w w' : World} {e : Int} {M : Int → Int × Int} {R : Int × (Int → Int × Int)} (h : R = (e, M)) (hP : Pm mb bb w M) (hb : Below w.heap.size w w') : MemEnd mb bb w R.1 R.2 (.returned (.int .i64 e)) w' := by
  subst h
  exact ⟨rfl, grown_below hb, hP.below hb⟩
theorem Pm.laid {mb bb : Nat} {w u : World} {M : Int → Int × Int} (h : Pm mb bb w M) (hL : Laid w) (hg : w.grownBy u (some bb)) : Laid u := hL.keep (hg.block 0 hL.lt (by have := h.nz; simpa using fun e : (0 : Nat) = bb => this e.symm))
/-! Arrays whole. -/
theorem under_arr : Tryd.prog.underlying 85 = some (.array 65536 42) := by kernel_rfl
theorem size_arr : (Tryd.prog.info? 85).map (·.size) = some 131072 := by kernel_rfl
theorem load_arr {w : World} {bb : Nat} {A : Array Value} {t : TypeId} (h : w.heap[bb]? = some (.cells A t (0, 0))) (hz : A.size = 131072) : (Instr.loadAt 85 (.pointer (some ⟨bb, 0, none⟩))).run Tryd.prog w = .ok (.agg A) w := by
  simp only [Instr.loadAt, Instr.sureAddr, Sem.run_bind, Sem.run_pure, Result.andThen_ok]
  exact run_loadVar_row _ _ t _ A _ _ h under_arr rfl (by rw [size_arr, hz])
def eqM (M N : Int → Int × Int) : Bool := (List.range 65536).all fun k => ((M k).1 == (N k).1) && ((M k).2 == (N k).2)
theorem eqM_iff (M N : Int → Int × Int) : eqM M N = true ↔ ∀ k : Nat, k < 65536 → M k = N k := by
  unfold eqM
  rw [List.all_eq_true]
  constructor
  · intro h k hk
    have := h k (List.mem_range.2 hk)
    simp only [Bool.and_eq_true, beq_iff_eq] at this
    exact Prod.ext this.1 this.2
  · intro h k hk
    rw [h k (List.mem_range.1 hk)]
    simp
theorem extract_two {A : Array Value} {i : Nat} {x y : Value} (h0 : A[i]? = some x) (h1 : A[i + 1]? = some y) : A.extract i (i + 2) = #[x, y] := by
  have hi : i + 1 < A.size := (Array.getElem?_eq_some_iff.1 h1).1
  apply Array.ext_getElem?
  intro j
  rw [Array.getElem?_extract]
  match j with
  | 0 => rw [if_pos (by omega), Nat.add_zero, h0]; rfl
  | 1 => rw [if_pos (by omega), h1]; rfl
  | j + 2 => rw [if_neg (by omega)]; simp
theorem part_byte {A : Array Value} {i : Nat} {x y : Value} (h0 : A[i]? = some x) (h1 : A[i + 1]? = some y) (w : World) : (part 42 A i).run Tryd.prog w = .ok (.agg #[x, y]) w := by
  have ha : (isAgg 42).run Tryd.prog w = .ok true w := by kernel_rfl
  have hs : (sizeOf 42).run Tryd.prog w = .ok 2 w := by kernel_rfl
  unfold part
  simp only [Sem.run_bind, ha, hs, Result.andThen_ok, if_true, Sem.run_pure, extract_two h0 h1]
theorem eql_arr {A B : Array Value} {M N : Int → Int × Int} (hA : Ar A M) (hB : Ar B N) (w : World) : (binOp .eql 85 (.agg A) (.agg B)).run Tryd.prog w = .ok (.bool (eqM M N)) w := by
  refine run_eql_arr w _ 42 65536 2 A B _ under_arr (by kernel_rfl) fun i hi => ?_
  simp only [Sem.run_bind, part_byte (hA.at0 i hi) (hA.at1 i hi), part_byte (hB.at0 i hi) (hB.at1 i hi), Result.andThen_ok, eq_byte]
end Go.Proofs.YtcilnbkmaoneaaaDoor
