/-
  The program's memory: an array of 65536 bytes behind a pointer; what a store makes of it; arrays loaded whole, and compared.
  The program: Of, Read, Write.
  The program: Write.
  The program: Load.
-/
import Derived.Test.YtcnejgilmciljaaGreatDoorCorr8
import Derived.Test.YtcnejgilmciljaaGreatDoorEqArr
import Derived.Laws.Tables
set_option linter.unusedSimpArgs false
set_option linter.unusedVariables false
namespace Go.Proofs.YtcnejgilmciljaaGreatDoor
open Go.RowKit Go.PlainAid

/-- The cells of an array that hold these bytes. -/
structure Ar (A : Array Value) (M : Int → Int × Int) : Prop where
  sz : A.size = 131072
  at0 : ∀ k : Nat, k < 65536 → A[k * 2]? = some (.int .u8 (M k).1)
  at1 : ∀ k : Nat, k < 65536 → A[k * 2 + 1]? = some (.int .u8 (M k).2)
theorem Ar.zero : Ar zeroA (fun _ => (0, 0)) := ⟨zeroA_size, fun k h => zeroA_get _ (by omega), fun k h => zeroA_get _ (by omega)⟩
theorem Ar.one {A : Array Value} {M : Int → Int × Int} (h : Ar A M) : A.all (·.oneCell') = true := by
  refine Array.all_eq_true.2 fun i hi => ?_
  have hz := h.sz
  by_cases e : i % 2 = 0
  · have := h.at0 (i / 2) (by omega)
    rw [show i / 2 * 2 = i by omega, Array.getElem?_eq_getElem hi] at this
    rw [Option.some.inj this]; rfl
  · have := h.at1 (i / 2) (by omega)
    rw [show i / 2 * 2 + 1 = i by omega, Array.getElem?_eq_getElem hi] at this
    rw [Option.some.inj this]; rfl
/-- The program's memory at the block mb: its bytes lie in the block bb. -/
structure Pm (mb bb : Nat) (w : World) (M : Int → Int × Int) : Prop where
  c0 : w.cell? ⟨mb, 0, none⟩ = some (.pointer (some ⟨bb, 0, none⟩))
  row : ∃ A t, w.heap[bb]? = some (.cells A t (0, 0)) ∧ Ar A M
  ne : mb ≠ bb
  nz : bb ≠ 0
theorem Pm.lt {mb bb : Nat} {w : World} {M : Int → Int × Int} (h : Pm mb bb w M) : bb < w.heap.size := by
  obtain ⟨A, t, h, _⟩ := h.row
  exact (Array.getElem?_eq_some_iff.1 h).1
theorem Pm.at0 {mb bb : Nat} {w : World} {M : Int → Int × Int} (h : Pm mb bb w M) (k : Nat) (hk : k < 65536) : w.cell? ⟨bb, k * 2, none⟩ = some (.int .u8 (M k).1) := by
  obtain ⟨A, t, h, ha⟩ := h.row
  rw [cell_of_row w bb _ A t _ h]
  exact ha.at0 k hk
theorem Pm.at1 {mb bb : Nat} {w : World} {M : Int → Int × Int} (h : Pm mb bb w M) (k : Nat) (hk : k < 65536) : w.cell? ⟨bb, k * 2 + 1, none⟩ = some (.int .u8 (M k).2) := by
  obtain ⟨A, t, h, ha⟩ := h.row
  rw [cell_of_row w bb _ A t _ h]
  exact ha.at1 k hk
theorem Pm.free {mb bb : Nat} {w : World} {M : Int → Int × Int} (h : Pm mb bb w M) (j : Nat) : w.frozen? ⟨bb, j, none⟩ = false := by
  obtain ⟨A, t, h, ha⟩ := h.row
  exact frozen_of_row w bb j A t h
theorem Pm.keep {mb bb : Nat} {w u : World} {M : Int → Int × Int} (h : Pm mb bb w M) (h1 : u.heap[mb]? = w.heap[mb]?) (h2 : u.heap[bb]? = w.heap[bb]?) : Pm mb bb u M := by
  obtain ⟨A, t, h3, ha⟩ := h.row
  exact ⟨(World.cell?_of_block h1).trans h.c0, ⟨A, t, h2.trans h3, ha⟩, h.ne, h.nz⟩
theorem Pm.below {mb bb : Nat} {w u : World} {M : Int → Int × Int} (h : Pm mb bb w M) (hb : Below w.heap.size w u) : Pm mb bb u M :=
  h.keep (hb.block mb (klt h.c0)) (hb.block bb h.lt)
theorem ar_set0 {A : Array Value} {M : Int → Int × Int} (h : Ar A M) (k : Nat) (hk : k < 65536) (v : Int) : Ar (A.setIfInBounds (k * 2) (.int .u8 v)) (setM M k (v, (M k).2)) := by
  have hz := h.sz
  refine ⟨by simp [hz], fun j hj => ?_, fun j hj => ?_⟩
  · unfold setM
    by_cases e : j = k
    · subst e
      rw [if_pos rfl, Array.getElem?_setIfInBounds_self, if_pos (by omega)]
    · rw [if_neg (by omega), Array.getElem?_setIfInBounds_ne (by omega)]
      exact h.at0 j hj
  · unfold setM
    rw [Array.getElem?_setIfInBounds_ne (by omega)]
    by_cases e : j = k
    · subst e
      rw [if_pos rfl]; exact h.at1 j hj
    · rw [if_neg (by omega)]
      exact h.at1 j hj
theorem ar_set1 {A : Array Value} {M : Int → Int × Int} (h : Ar A M) (k : Nat) (hk : k < 65536) (v : Int) : Ar (A.setIfInBounds (k * 2 + 1) (.int .u8 v)) (setM M k ((M k).1, v)) := by
  have hz := h.sz
  refine ⟨by simp [hz], fun j hj => ?_, fun j hj => ?_⟩
  · unfold setM
    rw [Array.getElem?_setIfInBounds_ne (by omega)]
    by_cases e : j = k
    · subst e
      rw [if_pos rfl]; exact h.at0 j hj
    · rw [if_neg (by omega)]
      exact h.at0 j hj
  · unfold setM
    by_cases e : j = k
    · subst e
      rw [if_pos rfl, Array.getElem?_setIfInBounds_self, if_pos (by omega)]
    · rw [if_neg (by omega), Array.getElem?_setIfInBounds_ne (by omega)]
      exact h.at1 j hj
theorem Pm.set0 {mb bb : Nat} {w : World} {M : Int → Int × Int} (h : Pm mb bb w M) (k : Nat) (hk : k < 65536) (v : Int) : Pm mb bb (w.setCell ⟨bb, k * 2, none⟩ (.int .u8 v)) (setM M k (v, (M k).2)) := by
  obtain ⟨A, t, h3, ha⟩ := h.row
  refine ⟨?_, ⟨_, t, heap_setCell_same w bb (k * 2) A t _ h3, ar_set0 ha k hk v⟩, h.ne, h.nz⟩
  exact (World.cell?_of_block (heap_setCell_other w ⟨bb, k * 2, none⟩ mb _ h.ne)).trans h.c0
theorem Pm.set1 {mb bb : Nat} {w : World} {M : Int → Int × Int} (h : Pm mb bb w M) (k : Nat) (hk : k < 65536) (v : Int) : Pm mb bb (w.setCell ⟨bb, k * 2 + 1, none⟩ (.int .u8 v)) (setM M k ((M k).1, v)) := by
  obtain ⟨A, t, h3, ha⟩ := h.row
  refine ⟨?_, ⟨_, t, heap_setCell_same w bb (k * 2 + 1) A t _ h3, ar_set1 ha k hk v⟩, h.ne, h.nz⟩
  exact (World.cell?_of_block (heap_setCell_other w ⟨bb, k * 2 + 1, none⟩ mb _ h.ne)).trans h.c0
theorem setM_twice (M : Int → Int × Int) (k : Int) (x y : Int × Int) : setM (setM M k x) k y = setM M k y := by
  funext b
  unfold setM
  by_cases e : b = k <;> simp [e]
theorem setM_at (M : Int → Int × Int) (k : Int) (x : Int × Int) : setM M k x k = x := by
  unfold setM; rw [if_pos rfl]
theorem Pm.set {mb bb : Nat} {w : World} {M : Int → Int × Int} (h : Pm mb bb w M) (k : Nat) (hk : k < 65536) (v t : Int) : Pm mb bb ((w.setCell ⟨bb, k * 2, none⟩ (.int .u8 v)).setCell ⟨bb, k * 2 + 1, none⟩ (.int .u8 t)) (setM M k (v, t)) := by
  have := (h.set0 k hk v).set1 k hk t
  rw [setM_at, setM_twice] at this
  exact this
/-- Behind a store into its bytes all other blocks are as they were. -/
theorem grown_set8 {w u : World} {bb o : Nat} {v : Value} (h : w.grownBy u (some bb)) : w.grownBy (u.setCell ⟨bb, o, none⟩ v) (some bb) :=
  ⟨h.os, h.tape, h.output, by rw [World.size_setCell]; exact h.size, fun b hb hne => (heap_setCell_other u ⟨bb, o, none⟩ b v (by simpa using hne)).trans (h.block b hb hne)⟩
theorem grown_below {w u : World} {g : Option Nat} (h : Below w.heap.size w u) : w.grownBy u g := ⟨h.os, h.tape, h.output, h.size, fun b hb _ => h.block b hb⟩
/-- What a call that writes the program's memory answers, and what stands behind it. -/
def MemEnd (mb bb : Nat) (w : World) (E : Int) (M : Int → Int × Int) : Ending → World → Prop := fun e w' => e = .returned (.int .i64 E) ∧ w.grownBy w' (some bb) ∧ Pm mb bb w' M
theorem memEnd_same {mb bb : Nat} {w w' : World} {e : Int} {M : Int → Int × Int} {R : Int × (Int → Int × Int)} (h : R = (e, M)) (hP : Pm mb bb w M) (hb : Below w.heap.size w w') : MemEnd mb bb w R.1 R.2 (.returned (.int .i64 e)) w' := by
  subst h
  exact ⟨rfl, grown_below hb, hP.below hb⟩
theorem Pm.laid {mb bb : Nat} {w u : World} {M : Int → Int × Int} (h : Pm mb bb w M) (hL : Laid w) (hg : w.grownBy u (some bb)) : Laid u := hL.keep (hg.block 0 hL.lt (by have := h.nz; simpa using fun e : (0 : Nat) = bb => this e.symm))
/-! Arrays whole. -/
theorem under_arr : Tryz.prog.underlying 128 = some (.array 65536 49) := by kernel_rfl
theorem size_arr : (Tryz.prog.info? 128).map (·.size) = some 131072 := by kernel_rfl
theorem load_arr {w : World} {bb : Nat} {A : Array Value} {t : TypeId} (h : w.heap[bb]? = some (.cells A t (0, 0))) (hz : A.size = 131072) : (Instr.loadAt 128 (.pointer (some ⟨bb, 0, none⟩))).run Tryz.prog w = .ok (.agg A) w := by
  simp only [Instr.loadAt, Instr.sureAddr, Sem.run_bind, Sem.run_pure, Result.andThen_ok]
  exact run_loadVar_row _ _ t _ A _ _ h under_arr rfl (by rw [size_arr, hz])
def eqM (M N : Int → Int × Int) : Bool := (List.range 65536).all fun k => ((M k).1 == (N k).1) && ((M k).2 == (N k).2)
theorem eqM_iff (M N : Int → Int × Int) : eqM M N = true ↔ ∀ k : Nat, k < 65536 → M k = N k := by
  unfold eqM
  rw [List.all_eq_true]
  constructor
  · intro h k hk
    have := h k (List.mem_range.2 hk)
    simp only [Bool.and_eq_true, beq_iff_eq] at this
    exact Prod.ext this.1 this.2
  · intro h k hk
    rw [h k (List.mem_range.1 hk)]
    simp
theorem extract_two {A : Array Value} {i : Nat} {x y : Value} (h0 : A[i]? = some x) (h1 : A[i + 1]? = some y) : A.extract i (i + 2) = #[x, y] := by
  have hi : i + 1 < A.size := (Array.getElem?_eq_some_iff.1 h1).1
  apply Array.ext_getElem?
  intro j
  rw [Array.getElem?_extract]
  match j with
  | 0 => rw [if_pos (by omega), Nat.add_zero, h0]; rfl
  | 1 => rw [if_pos (by omega), h1]; rfl
  | j + 2 => rw [if_neg (by omega)]; simp
theorem part_byte {A : Array Value} {i : Nat} {x y : Value} (h0 : A[i]? = some x) (h1 : A[i + 1]? = some y) (w : World) : (part 49 A i).run Tryz.prog w = .ok (.agg #[x, y]) w := by
  have ha : (isAgg 49).run Tryz.prog w = .ok true w := by kernel_rfl
  have hs : (sizeOf 49).run Tryz.prog w = .ok 2 w := by kernel_rfl
  unfold part
  simp only [Sem.run_bind, ha, hs, Result.andThen_ok, if_true, Sem.run_pure, extract_two h0 h1]
theorem eql_arr {A B : Array Value} {M N : Int → Int × Int} (hA : Ar A M) (hB : Ar B N) (w : World) : (binOp .eql 128 (.agg A) (.agg B)).run Tryz.prog w = .ok (.bool (eqM M N)) w := by
  refine run_eql_arr w _ 49 65536 2 A B _ under_arr (by kernel_rfl) fun i hi => ?_
  simp only [Sem.run_bind, part_byte (hA.at0 i hi) (hA.at1 i hi), part_byte (hB.at0 i hi) (hB.at1 i hi), Result.andThen_ok, eq_byte]
end Go.Proofs.YtcnejgilmciljaaGreatDoor
set_option linter.unusedSimpArgs false
set_option linter.unusedVariables false
namespace Go.Proofs.YtcnejgilmciljaaGreatDoor
open Go.RowKit Go.PlainAid

set_option maxRecDepth 100000 in
theorem taintof_c (n : Int) (w : World) : Calls Tryz.prog 28 #[.int .i64 n] w fun e w' => e = .returned (.agg #[.int .u8 (IntKind.u8.wrap n), .int .u8 0]) ∧ Below w.heap.size w w' := by
  obtain ⟨R, hR⟩ : ∃ R, IntKind.u8.wrap n = R := ⟨_, rfl⟩
  rw [hR]
  go_enter Tryz.func28, Tryz.ntmps28
  go_wp2
  refine bodyPost_ret (v := .agg #[.int .u8 R, .int .u8 0]) (by simp [results, Tryz.results28, go_sem, hR] <;> first | done | rfl) rfl ⟨rfl, by go_grown⟩
def prM (M : Int → Int × Int) (a : Int) : RdO := if kindI a a = 0 then ⟨0, 0, 10⟩ else if kindI a a = 2 then ⟨0, 0, 15⟩ else if kindI a a = 3 then ⟨255, 0, 0⟩ else ⟨(M a).1, (M a).2, 0⟩
set_option maxRecDepth 100000 in
theorem readn_c (a : Int) (w : World) : Calls Tryz.prog 25 #[.pointer none, .int .i64 a] w fun e w' => e = .returned (.tuple #[.agg #[.int .u8 0, .int .u8 0], .int .i64 2]) ∧ Below w.heap.size w w' := by
  go_enter Tryz.func25, Tryz.ntmps25
  go_wp2
  refine bodyPost_ret (v := .tuple #[.agg #[.int .u8 0, .int .u8 0], .int .i64 2]) (by simp [results, Tryz.results25, go_sem] <;> first | done | rfl) rfl ⟨rfl, by go_grown⟩
set_option maxRecDepth 100000 in
set_option maxHeartbeats 2000000 in
theorem readp_c (M : Int → Int × Int) (a : Int) (mb bb : Nat) (w : World) (hP : Pm mb bb w M) (hL : Laid w) :
    Calls Tryz.prog 25 #[.pointer (some ⟨mb, 0, none⟩), .int .i64 a] w fun e w' => e = .returned (.tuple #[.agg #[.int .u8 (prM M a).v, .int .u8 (prM M a).t], .int .i64 (prM M a).e]) ∧ Below w.heap.size w w' := by
  have HK := Lib.hid (fun W (hb : Below w.heap.size w W) => kindp_c a a W (hL.below hb))
  have HO := Lib.hid (fun W => taintof_c 255 W)
  have HC := Lib.hid (kindI_cases a a)
  obtain ⟨R, hR⟩ : ∃ R, prM M a = R := ⟨_, rfl⟩
  rw [hR]
  have HR := Lib.hid hR
  clear hR
  unfold prM at HR
  have HP := Lib.hid hP
  generalize kindI a a = K at *
  have hm_0 := hP.c0
  have hmw : mb < w.heap.size := klt hm_0
  have hbw := hP.lt
  clear hP
  rcases HC.out with ⟨rfl, h1, _⟩ | ⟨rfl, h1, _⟩ | ⟨rfl, h1, _⟩ | ⟨rfl, h1, _⟩ | ⟨rfl, _⟩
  · have HF := Lib.hid (show R = ⟨(M a).1, (M a).2, 0⟩ from HR.out.symm)
    have ha : 0 ≤ a ∧ a < 65536 := by unfold ramB at h1; simp only [Bool.and_eq_true, decide_eq_true_eq] at h1; omega
    obtain ⟨k, rfl⟩ : ∃ k : Nat, a = (k : Int) := ⟨a.toNat, by omega⟩
    have hk : k < 65536 := by omega
    have y0 := HP.out.at0 k hk
    have y1 := HP.out.at1 k hk
    obtain ⟨⟨bv, bt⟩, hb⟩ : ∃ B, M (k : Int) = B := ⟨_, rfl⟩
    rw [hb] at HF y0 y1
    dsimp only at HF y0 y1
    clear HR HC h1 hb
    have hin : (0 : Int) ≤ (k : Int) ∧ (k : Int) < 65536 := by omega
    go_enter Tryz.func25, Tryz.ntmps25
    go_wp2_with fail
    ((with_reducible refine (HK.out _ (by go_grown)).mono ?_); rintro _ u1 ⟨rfl, hb⟩)
    have T : u1.cell? ⟨mb, 0, none⟩ = some (.pointer (some ⟨bb, 0, none⟩)) ∧ CF u1 w.heap.size 0 (.int .u8 0) ∧ CF u1 w.heap.size 1 (.int .u8 0) := by
        refine ⟨?_, ⟨?_, ?_⟩, ⟨?_, ?_⟩⟩ <;> first | (refine kc hb ?_ <;> (go_simp; first | done | rfl)) | (refine kfz hb ?_ ?_ <;> first | (go_size; done) | (go_simp; done))
    have hz := hb.size
    (try simp only [World.size_alloc, World.size_setCell, World.size_drew] at hz)
    have L : mb < u1.heap.size ∧ w.heap.size < u1.heap.size := by omega
    have hB' : Below w.heap.size w u1 := by
        refine kb ?_ hb
        go_grown
    clear hb hz
    obtain ⟨hm_0, ⟨hz_0, fz_0⟩, ⟨hz_1, fz_1⟩⟩ := T
    obtain ⟨hlm, hlz⟩ := L
    obtain ⟨hnm0, hnm1, hkm1, hnm2, hkm2⟩ := ap0 hlm
    obtain ⟨hnz0, hnz1, hkz1, hnz2, hkz2⟩ := ap0 hlz
    have hB := hB'; clear hB'
    have hsz := hB.size
    have yb0 := kc hB y0
    have yb1 := kc hB y1
    go_wp2
    refine bodyPost_ret (v := .tuple #[.agg #[.int .u8 bv, .int .u8 bt], .int .i64 0]) (by simp [results, Tryz.results25, go_sem, hz_0, hz_1] <;> first | done | rfl) rfl (rdO_ret HF.out (by go_grown))
  · have HF := Lib.hid (show R = ⟨0, 0, 15⟩ from HR.out.symm)
    go_enter Tryz.func25, Tryz.ntmps25
    go_wp2_with fail
    ((with_reducible refine (HK.out _ (by go_grown)).mono ?_); rintro _ u1 ⟨rfl, hb⟩)
    have T : u1.cell? ⟨mb, 0, none⟩ = some (.pointer (some ⟨bb, 0, none⟩)) ∧ CF u1 w.heap.size 0 (.int .u8 0) ∧ CF u1 w.heap.size 1 (.int .u8 0) := by
        refine ⟨?_, ⟨?_, ?_⟩, ⟨?_, ?_⟩⟩ <;> first | (refine kc hb ?_ <;> (go_simp; first | done | rfl)) | (refine kfz hb ?_ ?_ <;> first | (go_size; done) | (go_simp; done))
    have hz := hb.size
    (try simp only [World.size_alloc, World.size_setCell, World.size_drew] at hz)
    have L : mb < u1.heap.size ∧ w.heap.size < u1.heap.size := by omega
    have hB' : Below w.heap.size w u1 := by
        refine kb ?_ hb
        go_grown
    clear hb hz
    obtain ⟨hm_0, ⟨hz_0, fz_0⟩, ⟨hz_1, fz_1⟩⟩ := T
    obtain ⟨hlm, hlz⟩ := L
    obtain ⟨hnm0, hnm1, hkm1, hnm2, hkm2⟩ := ap0 hlm
    obtain ⟨hnz0, hnz1, hkz1, hnz2, hkz2⟩ := ap0 hlz
    have hB := hB'; clear hB'
    have hsz := hB.size
    go_wp2
    refine bodyPost_ret (v := .tuple #[.agg #[.int .u8 0, .int .u8 0], .int .i64 15]) (by simp [results, Tryz.results25, go_sem, hz_0, hz_1] <;> first | done | rfl) rfl (rdO_ret HF.out (by go_grown))
  · have HF := Lib.hid (show R = ⟨255, 0, 0⟩ from HR.out.symm)
    go_enter Tryz.func25, Tryz.ntmps25
    go_wp2_with fail
    ((with_reducible refine (HK.out _ (by go_grown)).mono ?_); rintro _ u1 ⟨rfl, hb⟩)
    have T : u1.cell? ⟨mb, 0, none⟩ = some (.pointer (some ⟨bb, 0, none⟩)) ∧ CF u1 w.heap.size 0 (.int .u8 0) ∧ CF u1 w.heap.size 1 (.int .u8 0) := by
        refine ⟨?_, ⟨?_, ?_⟩, ⟨?_, ?_⟩⟩ <;> first | (refine kc hb ?_ <;> (go_simp; first | done | rfl)) | (refine kfz hb ?_ ?_ <;> first | (go_size; done) | (go_simp; done))
    have hz := hb.size
    (try simp only [World.size_alloc, World.size_setCell, World.size_drew] at hz)
    have L : mb < u1.heap.size ∧ w.heap.size < u1.heap.size := by omega
    have hB' : Below w.heap.size w u1 := by
        refine kb ?_ hb
        go_grown
    clear hb hz
    obtain ⟨hm_0, ⟨hz_0, fz_0⟩, ⟨hz_1, fz_1⟩⟩ := T
    obtain ⟨hlm, hlz⟩ := L
    obtain ⟨hnm0, hnm1, hkm1, hnm2, hkm2⟩ := ap0 hlm
    obtain ⟨hnz0, hnz1, hkz1, hnz2, hkz2⟩ := ap0 hlz
    have hB := hB'; clear hB'
    have hsz := hB.size
    go_wp2_with fail
    ((with_reducible refine (HO.out _).mono ?_); rintro _ u2 ⟨rfl, hb⟩)
    have T : u2.cell? ⟨mb, 0, none⟩ = some (.pointer (some ⟨bb, 0, none⟩)) ∧ CF u2 w.heap.size 0 (.int .u8 0) ∧ CF u2 w.heap.size 1 (.int .u8 0) := by
        refine ⟨?_, ⟨?_, ?_⟩, ⟨?_, ?_⟩⟩ <;> first | (refine kc hb ?_ <;> (go_simp; first | done | rfl)) | (refine kfz hb ?_ ?_ <;> first | (go_size; done) | (go_simp; done))
    have hz := hb.size
    (try simp only [World.size_alloc, World.size_setCell, World.size_drew] at hz)
    have L : mb < u2.heap.size ∧ w.heap.size < u2.heap.size := by omega
    have hB' : Below w.heap.size w u2 := by
        refine kb ?_ hb
        go_grown
    clear hm_0 hz_0 fz_0 hz_1 fz_1 hlm hlz hnm0 hnm1 hkm1 hnm2 hkm2 hnz0 hnz1 hkz1 hnz2 hkz2 hB hsz
    clear hb hz
    obtain ⟨hm_0, ⟨hz_0, fz_0⟩, ⟨hz_1, fz_1⟩⟩ := T
    obtain ⟨hlm, hlz⟩ := L
    obtain ⟨hnm0, hnm1, hkm1, hnm2, hkm2⟩ := ap0 hlm
    obtain ⟨hnz0, hnz1, hkz1, hnz2, hkz2⟩ := ap0 hlz
    have hB := hB'; clear hB'
    have hsz := hB.size
    go_wp2
    refine bodyPost_ret (v := .tuple #[.agg #[.int .u8 255, .int .u8 0], .int .i64 0]) (by simp [results, Tryz.results25, go_sem, hz_0, hz_1] <;> first | done | rfl) rfl (rdO_ret HF.out (by go_grown))
  · have HF := Lib.hid (show R = ⟨(M a).1, (M a).2, 0⟩ from HR.out.symm)
    have ha : 0 ≤ a ∧ a < 65536 := by unfold romB at h1; simp only [Bool.and_eq_true, decide_eq_true_eq] at h1; omega
    obtain ⟨k, rfl⟩ : ∃ k : Nat, a = (k : Int) := ⟨a.toNat, by omega⟩
    have hk : k < 65536 := by omega
    have y0 := HP.out.at0 k hk
    have y1 := HP.out.at1 k hk
    obtain ⟨⟨bv, bt⟩, hb⟩ : ∃ B, M (k : Int) = B := ⟨_, rfl⟩
    rw [hb] at HF y0 y1
    dsimp only at HF y0 y1
    clear HR HC h1 hb
    have hin : (0 : Int) ≤ (k : Int) ∧ (k : Int) < 65536 := by omega
    go_enter Tryz.func25, Tryz.ntmps25
    go_wp2_with fail
    ((with_reducible refine (HK.out _ (by go_grown)).mono ?_); rintro _ u1 ⟨rfl, hb⟩)
    have T : u1.cell? ⟨mb, 0, none⟩ = some (.pointer (some ⟨bb, 0, none⟩)) ∧ CF u1 w.heap.size 0 (.int .u8 0) ∧ CF u1 w.heap.size 1 (.int .u8 0) := by
        refine ⟨?_, ⟨?_, ?_⟩, ⟨?_, ?_⟩⟩ <;> first | (refine kc hb ?_ <;> (go_simp; first | done | rfl)) | (refine kfz hb ?_ ?_ <;> first | (go_size; done) | (go_simp; done))
    have hz := hb.size
    (try simp only [World.size_alloc, World.size_setCell, World.size_drew] at hz)
    have L : mb < u1.heap.size ∧ w.heap.size < u1.heap.size := by omega
    have hB' : Below w.heap.size w u1 := by
        refine kb ?_ hb
        go_grown
    clear hb hz
    obtain ⟨hm_0, ⟨hz_0, fz_0⟩, ⟨hz_1, fz_1⟩⟩ := T
    obtain ⟨hlm, hlz⟩ := L
    obtain ⟨hnm0, hnm1, hkm1, hnm2, hkm2⟩ := ap0 hlm
    obtain ⟨hnz0, hnz1, hkz1, hnz2, hkz2⟩ := ap0 hlz
    have hB := hB'; clear hB'
    have hsz := hB.size
    have yb0 := kc hB y0
    have yb1 := kc hB y1
    go_wp2
    refine bodyPost_ret (v := .tuple #[.agg #[.int .u8 bv, .int .u8 bt], .int .i64 0]) (by simp [results, Tryz.results25, go_sem, hz_0, hz_1] <;> first | done | rfl) rfl (rdO_ret HF.out (by go_grown))
  · have HF := Lib.hid (show R = ⟨0, 0, 10⟩ from HR.out.symm)
    go_enter Tryz.func25, Tryz.ntmps25
    go_wp2_with fail
    ((with_reducible refine (HK.out _ (by go_grown)).mono ?_); rintro _ u1 ⟨rfl, hb⟩)
    have T : u1.cell? ⟨mb, 0, none⟩ = some (.pointer (some ⟨bb, 0, none⟩)) ∧ CF u1 w.heap.size 0 (.int .u8 0) ∧ CF u1 w.heap.size 1 (.int .u8 0) := by
        refine ⟨?_, ⟨?_, ?_⟩, ⟨?_, ?_⟩⟩ <;> first | (refine kc hb ?_ <;> (go_simp; first | done | rfl)) | (refine kfz hb ?_ ?_ <;> first | (go_size; done) | (go_simp; done))
    have hz := hb.size
    (try simp only [World.size_alloc, World.size_setCell, World.size_drew] at hz)
    have L : mb < u1.heap.size ∧ w.heap.size < u1.heap.size := by omega
    have hB' : Below w.heap.size w u1 := by
        refine kb ?_ hb
        go_grown
    clear hb hz
    obtain ⟨hm_0, ⟨hz_0, fz_0⟩, ⟨hz_1, fz_1⟩⟩ := T
    obtain ⟨hlm, hlz⟩ := L
    obtain ⟨hnm0, hnm1, hkm1, hnm2, hkm2⟩ := ap0 hlm
    obtain ⟨hnz0, hnz1, hkz1, hnz2, hkz2⟩ := ap0 hlz
    have hB := hB'; clear hB'
    have hsz := hB.size
    go_wp2
    refine bodyPost_ret (v := .tuple #[.agg #[.int .u8 0, .int .u8 0], .int .i64 10]) (by simp [results, Tryz.results25, go_sem, hz_0, hz_1] <;> first | done | rfl) rfl (rdO_ret HF.out (by go_grown))
end Go.Proofs.YtcnejgilmciljaaGreatDoor
set_option linter.unusedSimpArgs false
set_option linter.unusedVariables false
namespace Go.Proofs.YtcnejgilmciljaaGreatDoor
open Go.RowKit Go.PlainAid

def writeM (M : Int → Int × Int) (a v t : Int) : Int × (Int → Int × Int) := if kindI a a = 0 then (10, M) else if kindI a a = 2 then (15, M) else if kindI a a = 1 then (0, setM M a (v, t)) else (0, M)
set_option maxRecDepth 100000 in
theorem writen_c (a v t : Int) (w : World) : Calls Tryz.prog 26 #[.pointer none, .int .i64 a, .agg #[.int .u8 v, .int .u8 t]] w fun e w' => e = .returned (.int .i64 2) ∧ Below w.heap.size w w' := by
  go_enter Tryz.func26, Tryz.ntmps26
  go_wp2
  go_ret
  exact ⟨rfl, by go_grown⟩
set_option maxRecDepth 100000 in
set_option maxHeartbeats 2000000 in
theorem writep_c (M : Int → Int × Int) (a bv bt : Int) (mb bb : Nat) (w : World) (hP : Pm mb bb w M) (hL : Laid w) :
    Calls Tryz.prog 26 #[.pointer (some ⟨mb, 0, none⟩), .int .i64 a, .agg #[.int .u8 bv, .int .u8 bt]] w (MemEnd mb bb w (writeM M a bv bt).1 (writeM M a bv bt).2) := by
  have HK := Lib.hid (fun W (hb : Below w.heap.size w W) => kindp_c a a W (hL.below hb))
  have HC := Lib.hid (kindI_cases a a)
  obtain ⟨R, hR⟩ : ∃ R, writeM M a bv bt = R := ⟨_, rfl⟩
  rw [hR]
  have HR := Lib.hid hR
  clear hR
  unfold writeM at HR
  have HP := Lib.hid hP
  generalize kindI a a = K at *
  have hm_0 := hP.c0
  have hmw : mb < w.heap.size := klt hm_0
  have hbw := hP.lt
  clear hP
  rcases HC.out with ⟨rfl, h1, _⟩ | ⟨rfl, h1, _⟩ | ⟨rfl, h1, _⟩ | ⟨rfl, h1, _⟩ | ⟨rfl, _⟩
  · have HF := Lib.hid (show R = (0, setM M a (bv, bt)) from HR.out.symm)
    have ha : 0 ≤ a ∧ a < 65536 := by unfold ramB at h1; simp only [Bool.and_eq_true, decide_eq_true_eq] at h1; omega
    obtain ⟨k, rfl⟩ : ∃ k : Nat, a = (k : Int) := ⟨a.toNat, by omega⟩
    have hk : k < 65536 := by omega
    have y0 := HP.out.at0 k hk
    have y1 := HP.out.at1 k hk
    have z0 := HP.out.free (k * 2)
    have z1 := HP.out.free (k * 2 + 1)
    clear HR HC h1
    have hin : (0 : Int) ≤ (k : Int) ∧ (k : Int) < 65536 := by omega
    go_enter Tryz.func26, Tryz.ntmps26
    go_wp2_with fail
    ((with_reducible refine (HK.out _ (by go_grown)).mono ?_); rintro _ u1 ⟨rfl, hb⟩)
    have T : u1.cell? ⟨mb, 0, none⟩ = some (.pointer (some ⟨bb, 0, none⟩)) ∧ CC u1 w.heap.size 0 1 (.int .u8 bv) (.int .u8 bt) := by
        refine ⟨?_, ⟨?_, ?_⟩⟩ <;> refine kc hb ?_ <;> (go_simp; first | done | rfl)
    have hz := hb.size
    (try simp only [World.size_alloc, World.size_setCell, World.size_drew] at hz)
    have L : mb < u1.heap.size ∧ w.heap.size < u1.heap.size := by omega
    have hB' : Below w.heap.size w u1 := by
        refine kb ?_ hb
        go_grown
    clear hb hz
    obtain ⟨hm_0, ⟨hb_0, hb_1⟩⟩ := T
    obtain ⟨hlm, hlb⟩ := L
    obtain ⟨hnm0, hnm1, hkm1, hnm2, hkm2⟩ := ap0 hlm
    obtain ⟨hnb0, hnb1, hkb1, hnb2, hkb2⟩ := ap0 hlb
    have hB := hB'; clear hB'
    have hsz := hB.size
    go_wp2_with fail
    refine wp_region_planT 8 (fun w' => w'.cell? ⟨mb, 0, none⟩ = some (.pointer (some ⟨bb, 0, none⟩)) ∧ w'.cell? ⟨w.heap.size, 0, none⟩ = some (.int .u8 bv) ∧ w'.cell? ⟨w.heap.size, 1, none⟩ = some (.int .u8 bt) ∧ Below w.heap.size w w') (by kernel_rfl) (by kernel_rfl) (by kernel_rfl) (by kernel_rfl) ?_ ?_
    · (try dsimp only)
      refine ⟨?_, ?_, ?_, ?_⟩ <;> first | (go_simp; done) | (simp [*]; done) | go_grown
    (try simp only [List.append_eq, List.cons_append, List.nil_append, List.toList_toArray, List.take_succ_cons, List.take_zero, List.drop_succ_cons, List.drop_zero])
    repeat (first
      | (refine Plan.val (v := ?_) ?_ ?_ ?_; rotate_left; (· rfl); (· (intro W hSw; (try dsimp only at hSw); go_simp; all_goals (first | (with_reducible rfl) | (constructor <;> (with_reducible rfl)) | (rw [if_neg (by omega)]; done) | (rw [if_neg (by omega)]; with_reducible rfl)))); (try simp only [Act.put, List.setIfInBounds_toArray, List.set_cons_zero, List.set_cons_succ]))
      | (refine Plan.no ?_ ?_; (· rfl); (try simp only [Act.put, List.setIfInBounds_toArray, List.set_cons_zero, List.set_cons_succ])))
    refine Plan.done ?_
    intro u2 T
    (try dsimp only at T)
    clear hm_0 hb_0 hb_1 hlm hlb hnm0 hnm1 hkm1 hnm2 hkm2 hnb0 hnb1 hkb1 hnb2 hkb2 hB hsz
    obtain ⟨hm_0, hb_0, hb_1, hB⟩ := T
    have hsz := hB.size
    have hlm := klt hm_0
    have hlb := klt hb_0
    obtain ⟨hnm0, hnm1, hkm1, hnm2, hkm2⟩ := ap0 hlm
    obtain ⟨hnb0, hnb1, hkb1, hnb2, hkb2⟩ := ap0 hlb
    have yb0 := kc hB y0
    have yb1 := kc hB y1
    have zb0 := kfz hB hbw z0
    have zb1 := kfz hB hbw z1
    have HB := Lib.hid hB
    go_wp2
    go_ret
    have hf := HF.out
    subst hf
    exact ⟨rfl, grown_set8 (grown_set8 (grown_below HB.out)), (HP.out.below HB.out).set k hk bv bt⟩
  · have HF := Lib.hid (show R = (15, M) from HR.out.symm)
    go_enter Tryz.func26, Tryz.ntmps26
    go_wp2_with fail
    ((with_reducible refine (HK.out _ (by go_grown)).mono ?_); rintro _ u1 ⟨rfl, hb⟩)
    have T : u1.cell? ⟨mb, 0, none⟩ = some (.pointer (some ⟨bb, 0, none⟩)) ∧ CC u1 w.heap.size 0 1 (.int .u8 bv) (.int .u8 bt) := by
        refine ⟨?_, ⟨?_, ?_⟩⟩ <;> refine kc hb ?_ <;> (go_simp; first | done | rfl)
    have hz := hb.size
    (try simp only [World.size_alloc, World.size_setCell, World.size_drew] at hz)
    have L : mb < u1.heap.size ∧ w.heap.size < u1.heap.size := by omega
    have hB' : Below w.heap.size w u1 := by
        refine kb ?_ hb
        go_grown
    clear hb hz
    obtain ⟨hm_0, ⟨hb_0, hb_1⟩⟩ := T
    obtain ⟨hlm, hlb⟩ := L
    obtain ⟨hnm0, hnm1, hkm1, hnm2, hkm2⟩ := ap0 hlm
    obtain ⟨hnb0, hnb1, hkb1, hnb2, hkb2⟩ := ap0 hlb
    have hB := hB'; clear hB'
    have hsz := hB.size
    go_wp2
    go_ret
    exact memEnd_same HF.out HP.out (by go_grown)
  · have HF := Lib.hid (show R = (0, M) from HR.out.symm)
    go_enter Tryz.func26, Tryz.ntmps26
    go_wp2_with fail
    ((with_reducible refine (HK.out _ (by go_grown)).mono ?_); rintro _ u1 ⟨rfl, hb⟩)
    have T : u1.cell? ⟨mb, 0, none⟩ = some (.pointer (some ⟨bb, 0, none⟩)) ∧ CC u1 w.heap.size 0 1 (.int .u8 bv) (.int .u8 bt) := by
        refine ⟨?_, ⟨?_, ?_⟩⟩ <;> refine kc hb ?_ <;> (go_simp; first | done | rfl)
    have hz := hb.size
    (try simp only [World.size_alloc, World.size_setCell, World.size_drew] at hz)
    have L : mb < u1.heap.size ∧ w.heap.size < u1.heap.size := by omega
    have hB' : Below w.heap.size w u1 := by
        refine kb ?_ hb
        go_grown
    clear hb hz
    obtain ⟨hm_0, ⟨hb_0, hb_1⟩⟩ := T
    obtain ⟨hlm, hlb⟩ := L
    obtain ⟨hnm0, hnm1, hkm1, hnm2, hkm2⟩ := ap0 hlm
    obtain ⟨hnb0, hnb1, hkb1, hnb2, hkb2⟩ := ap0 hlb
    have hB := hB'; clear hB'
    have hsz := hB.size
    go_wp2
    go_ret
    exact memEnd_same HF.out HP.out (by go_grown)
  · have HF := Lib.hid (show R = (0, M) from HR.out.symm)
    go_enter Tryz.func26, Tryz.ntmps26
    go_wp2_with fail
    ((with_reducible refine (HK.out _ (by go_grown)).mono ?_); rintro _ u1 ⟨rfl, hb⟩)
    have T : u1.cell? ⟨mb, 0, none⟩ = some (.pointer (some ⟨bb, 0, none⟩)) ∧ CC u1 w.heap.size 0 1 (.int .u8 bv) (.int .u8 bt) := by
        refine ⟨?_, ⟨?_, ?_⟩⟩ <;> refine kc hb ?_ <;> (go_simp; first | done | rfl)
    have hz := hb.size
    (try simp only [World.size_alloc, World.size_setCell, World.size_drew] at hz)
    have L : mb < u1.heap.size ∧ w.heap.size < u1.heap.size := by omega
    have hB' : Below w.heap.size w u1 := by
        refine kb ?_ hb
        go_grown
    clear hb hz
    obtain ⟨hm_0, ⟨hb_0, hb_1⟩⟩ := T
    obtain ⟨hlm, hlb⟩ := L
    obtain ⟨hnm0, hnm1, hkm1, hnm2, hkm2⟩ := ap0 hlm
    obtain ⟨hnb0, hnb1, hkb1, hnb2, hkb2⟩ := ap0 hlb
    have hB := hB'; clear hB'
    have hsz := hB.size
    go_wp2
    go_ret
    exact memEnd_same HF.out HP.out (by go_grown)
  · have HF := Lib.hid (show R = (10, M) from HR.out.symm)
    go_enter Tryz.func26, Tryz.ntmps26
    go_wp2_with fail
    ((with_reducible refine (HK.out _ (by go_grown)).mono ?_); rintro _ u1 ⟨rfl, hb⟩)
    have T : u1.cell? ⟨mb, 0, none⟩ = some (.pointer (some ⟨bb, 0, none⟩)) ∧ CC u1 w.heap.size 0 1 (.int .u8 bv) (.int .u8 bt) := by
        refine ⟨?_, ⟨?_, ?_⟩⟩ <;> refine kc hb ?_ <;> (go_simp; first | done | rfl)
    have hz := hb.size
    (try simp only [World.size_alloc, World.size_setCell, World.size_drew] at hz)
    have L : mb < u1.heap.size ∧ w.heap.size < u1.heap.size := by omega
    have hB' : Below w.heap.size w u1 := by
        refine kb ?_ hb
        go_grown
    clear hb hz
    obtain ⟨hm_0, ⟨hb_0, hb_1⟩⟩ := T
    obtain ⟨hlm, hlb⟩ := L
    obtain ⟨hnm0, hnm1, hkm1, hnm2, hkm2⟩ := ap0 hlm
    obtain ⟨hnb0, hnb1, hkb1, hnb2, hkb2⟩ := ap0 hlb
    have hB := hB'; clear hB'
    have hsz := hB.size
    go_wp2
    go_ret
    exact memEnd_same HF.out HP.out (by go_grown)
end Go.Proofs.YtcnejgilmciljaaGreatDoor
set_option linter.unusedSimpArgs false
set_option linter.unusedVariables false
namespace Go.Proofs.YtcnejgilmciljaaGreatDoor
open Go.RowKit Go.PlainAid

theorem loadM_snoc (b : Int) : ∀ (l : List Int) (M : Int → Int × Int) (a : Int), loadM M a (l ++ [b]) = setM (loadM M a l) (a + l.length) (b, 0)
  | [], M, a => by simp [loadM]
  | x :: r, M, a => by
    rw [List.cons_append, loadM, loadM, loadM_snoc b r]
    simp only [List.length_cons]
    rw [show a + 1 + (r.length : Int) = a + ((r.length + 1 : Nat) : Int) by omega]
/-- Where the last byte of a load would lie: that of none counts as one. -/
def lastA (a : Int) (m : Nat) : Int := if m = 0 then a else a + m - 1
def loadMp (M : Int → Int × Int) (a : Int) (bs : List Int) : Int × (Int → Int × Int) := if onlyB a (lastA a bs.length) = true then (0, loadM M a bs) else (10, M)
theorem onlyB_real {f t : Int} (h : onlyB f t = true) : 0 ≤ f ∧ f ≤ t ∧ t < 65536 := by
  rw [onlyB_eq] at h
  simp only [Bool.not_eq_true', Bool.or_eq_false_iff, Bool.not_eq_false', decide_eq_false_iff_not] at h
  have h2 := h.2
  unfold oneB ramB romB at h2
  simp only [Bool.or_eq_true, Bool.and_eq_true, decide_eq_true_eq] at h2
  omega
theorem onlyB_out {f t : Int} (h : ¬ (0 ≤ f ∧ f < 65536)) : onlyB f t = false := by
  cases e : onlyB f t
  · rfl
  · exact absurd (onlyB_real e) (by omega)
theorem onlyB_to {f t : Int} (h : ¬ (f ≤ t ∧ t < 65536)) : onlyB f t = false := by
  cases e : onlyB f t
  · rfl
  · exact absurd (onlyB_real e) (by omega)
theorem lastA_wrap (a : Int) (m : Nat) (hm : m ≤ 9223372036854775807) : onlyB a (IntKind.i64.wrap (IntKind.i64.wrap (a + (if m = 0 then 1 else (m : Int))) - 1)) = onlyB a (lastA a m) := by
  by_cases h : 0 ≤ a ∧ a < 65536
  · unfold lastA
    split
    · rw [IntWalk.i64_in (a + 1) (by omega), IntWalk.i64_in _ (by omega)]
      congr 1; omega
    · by_cases hs : m ≤ 100000
      · rw [IntWalk.i64_in (a + (m : Int)) (by omega), IntWalk.i64_in _ (by omega)]
      · rw [onlyB_to (f := a) (t := a + (m : Int) - 1) (by omega)]
        refine onlyB_to ?_
        rw [IntKind.wrap_i64, IntKind.wrap_i64]
        omega
  · rw [onlyB_out h, onlyB_out h]
set_option maxRecDepth 100000 in
theorem loadn_c (a : Int) (v : Value) (w : World) : Calls Tryz.prog 34 #[.pointer none, .int .i64 a, v] w fun e w' => e = .returned (.int .i64 2) ∧ Below w.heap.size w w' := by
  go_enter Tryz.func34, Tryz.ntmps34
  go_wp2
  go_ret
  exact ⟨rfl, by go_grown⟩
set_option maxRecDepth 100000 in
set_option maxHeartbeats 2000000 in
theorem loadp_c (M : Int → Int × Int) (a : Int) (bs : List Int) (hbl : bs.length ≤ 9223372036854775807) (mb bb : Nat) (bv : Value) (w : World) (hP : Pm mb bb w M) (hL : Laid w) (hv : HoldsB w bv bs) (hg : 0 < bs.length → ∀ g, bv.ownBlock = some g → g ≠ bb) :
    Calls Tryz.prog 34 #[.pointer (some ⟨mb, 0, none⟩), .int .i64 a, bv] w (MemEnd mb bb w (loadMp M a bs).1 (loadMp M a bs).2) := by
  obtain ⟨R, hR⟩ : ∃ R, loadMp M a bs = R := ⟨_, rfl⟩
  rw [hR]
  have HR := Lib.hid hR
  clear hR
  unfold loadMp at HR
  have HP := Lib.hid hP
  have HV := Lib.hid hv
  have HG := Lib.hid hg
  have hm_0 := hP.c0
  have hmw : mb < w.heap.size := klt hm_0
  have hbw := hP.lt
  obtain ⟨bp, bc, rfl⟩ := hv.form
  obtain ⟨m, hm⟩ : ∃ m, bs.length = m := ⟨_, rfl⟩
  rw [hm] at HR hbl ⊢
  have HN := Lib.hid hm
  have HK0 := Lib.hid (fun W (hb : Below w.heap.size w W) (h0 : m = 0) => show Calls Tryz.prog 68 #[.int .i64 a, .int .i64 (wrap64 (wrap64 (a + 1) - 1))] W (fun e w' => e = .returned (.bool (onlyB a (lastA a m))) ∧ Below W.heap.size W w') from by
    have e := lastA_wrap a m hbl
    rw [if_pos h0] at e
    have e2 : IntKind.i64.wrap (IntKind.i64.wrap (a + 1) - 1) = wrap64 (wrap64 (a + 1) - 1) := by simp only [IntWalk.i64_left]
    rw [← e, e2]
    exact onep_c a _ W (hL.below hb))
  have HK1 := Lib.hid (fun W (hb : Below w.heap.size w W) (h0 : ¬ m = 0) => show Calls Tryz.prog 68 #[.int .i64 a, .int .i64 (wrap64 (wrap64 (a + m) - 1))] W (fun e w' => e = .returned (.bool (onlyB a (lastA a m))) ∧ Below W.heap.size W w') from by
    have e := lastA_wrap a m hbl
    rw [if_neg h0] at e
    have e2 : IntKind.i64.wrap (IntKind.i64.wrap (a + m) - 1) = wrap64 (wrap64 (a + m) - 1) := by simp only [IntWalk.i64_left]
    rw [← e, e2]
    exact onep_c a _ W (hL.below hb))
  have HA := Lib.hid (show onlyB a (lastA a m) = true → 0 ≤ a ∧ lastA a m < 65536 from fun h => ⟨(onlyB_real h).1, (onlyB_real h).2.2⟩)
  obtain ⟨O, hO⟩ : ∃ O, onlyB a (lastA a m) = O := ⟨_, rfl⟩
  rw [hO] at HR HA HK0 HK1
  clear hP hv hg hm hO
  go_enter Tryz.func34, Tryz.ntmps34
  go_upto_region 3 with fail
  go_cut [19] (fun s19 wx => s19 = .bool (!O) ∧ wx.cell? ⟨mb, 0, none⟩ = some (.pointer (some ⟨bb, 0, none⟩)) ∧ Below w.heap.size w wx)
  case first =>
    by_cases h0 : m = 0
    · have hm1 : ¬ (1 : Int) ≤ (m : Int) := by omega
      have H0 := Lib.hid h0
      clear h0
      go_wp2_with fail
      ((with_reducible refine (HK0.out _ (by go_grown) H0.out).mono ?_); rintro _ u1 ⟨rfl, hb⟩)
      have T : u1.cell? ⟨mb, 0, none⟩ = some (.pointer (some ⟨bb, 0, none⟩)) := by
          refine kc hb ?_ <;> (go_simp; first | done | rfl)
      have hz := hb.size
      (try simp only [World.size_alloc, World.size_setCell, World.size_drew] at hz)
      have L : mb < u1.heap.size := by omega
      have hB' : Below w.heap.size w u1 := by
          refine kb ?_ hb
          go_grown
      clear hb hz
      have hm_0 := T; clear T
      have hlm := L; clear L
      obtain ⟨hnm0, hnm1, hkm1, hnm2, hkm2⟩ := ap0 hlm
      have hB := hB'; clear hB'
      have hsz := hB.size
      go_wp2_with fail
      go_meet
      exact ⟨rfl, ⟨hm_0, hB⟩⟩
    · have hm1 : (1 : Int) ≤ (m : Int) := by omega
      have H0 := Lib.hid h0
      clear h0
      go_wp2_with fail
      ((with_reducible refine (HK1.out _ (by go_grown) H0.out).mono ?_); rintro _ u1 ⟨rfl, hb⟩)
      have T : u1.cell? ⟨mb, 0, none⟩ = some (.pointer (some ⟨bb, 0, none⟩)) := by
          refine kc hb ?_ <;> (go_simp; first | done | rfl)
      have hz := hb.size
      (try simp only [World.size_alloc, World.size_setCell, World.size_drew] at hz)
      have L : mb < u1.heap.size := by omega
      have hB' : Below w.heap.size w u1 := by
          refine kb ?_ hb
          go_grown
      clear hb hz
      have hm_0 := T; clear T
      have hlm := L; clear L
      obtain ⟨hnm0, hnm1, hkm1, hnm2, hkm2⟩ := ap0 hlm
      have hB := hB'; clear hB'
      have hsz := hB.size
      go_wp2_with fail
      go_meet
      exact ⟨rfl, ⟨hm_0, hB⟩⟩
  case rest =>
    obtain ⟨wd, hwd⟩ : ∃ W, W = wc := ⟨_, rfl⟩
    rw [← hwd] at hcut ⊢
    clear hwd
    obtain ⟨rfl, hcut⟩ := hcut
    obtain ⟨hm_0, hB⟩ := hcut
    have hsz := hB.size
    have hlm := klt hm_0
    obtain ⟨hnm0, hnm1, hkm1, hnm2, hkm2⟩ := ap0 hlm
    cases O
    · have HF := Lib.hid (show R = (10, M) from by rw [← HR.out]; rfl)
      go_wp2
      go_ret
      exact memEnd_same HF.out HP.out hB
    · have HF := Lib.hid (show R = (0, loadM M a bs) from by rw [← HR.out]; rfl)
      have HAA := Lib.hid (show ∀ k : Nat, k < m → 0 ≤ a + (k : Int) ∧ a + (k : Int) < 65536 from fun k hk => by
        have h := HA.out rfl
        unfold lastA at h
        rw [if_neg (by omega)] at h
        omega)
      have HPd := Lib.hid (HP.out.below hB)
      have HBd := Lib.hid (show w.grownBy wd (some bb) from grown_below hB)
      go_wp2_with fail
      go_loopw [22] (fun s22 wr => ∃ k : Nat, k ≤ m ∧ s22 = .int .i64 k ∧ Hid (Pm mb bb wr (loadM M a (bs.take k))) ∧ Hid (w.grownBy wr (some bb))) (fun i _ => m - (intOf i).toNat)
      case atStart => exact ⟨0, Nat.zero_le _, rfl, Lib.hid (by rw [List.take_zero]; exact HPd.out), HBd⟩
      case round =>
        obtain ⟨k, hk, rfl, HPr, HGr⟩ := hrel
        clear hB hsz hlm hnm0 hnm1 hkm1 hnm2 hkm2 hm_0
        by_cases hlt2 : k < m
        · have hd : decide ((k : Int) < (m : Int)) = true := decide_eq_true (by omega)
          have hlk : k < bs.length := by rw [HN.out]; exact hlt2
          obtain ⟨g, o, cap, e1, hcap, hcc⟩ := HV.out.some (by omega)
          obtain ⟨rfl, n1, rfl⟩ := Value.slice.inj e1
          clear e1 n1
          have hgm := HG.out (by omega) g rfl
          obtain ⟨x, hx⟩ : ∃ x, bs[k]? = some x := ⟨_, List.getElem?_eq_getElem hlk⟩
          have hx0 := hcc k x hx 0 _ rfl
          rw [Nat.mul_one, Nat.add_zero] at hx0
          have hx_0 := HGr.out.cell hx0 (by simpa using hgm)
          have HS := Lib.hid (show loadM M a (bs.take (k + 1)) = setM (loadM M a (bs.take k)) (a + (k : Int)) (x, 0) from by
            rw [List.take_add_one, hx, Option.toList_some, loadM_snoc, List.length_take, Nat.min_eq_left (by omega)])
          obtain ⟨j, hj⟩ : ∃ j : Nat, a + (k : Int) = (j : Int) := ⟨(a + (k : Int)).toNat, by have := HAA.out k hlt2; omega⟩
          have hj6 : j < 65536 := by have := HAA.out k hlt2; omega
          have hw1 : IntKind.i64.wrap (a + (k : Int)) = (j : Int) := by rw [hj]; exact IntWalk.i64_in _ (by omega)
          have hw2 : IntKind.i64.wrap ((k : Int) + 1) = (k : Int) + 1 := IntWalk.i64_in _ (by omega)
          have hin : (0 : Int) ≤ (k : Int) ∧ (k : Int) < (m : Int) := by omega
          have hin2 : (0 : Int) ≤ (j : Int) ∧ (j : Int) < 65536 := by omega
          have HJ := Lib.hid hj
          have hmr_0 := HPr.out.c0
          have y0 := HPr.out.at0 j hj6
          have y1 := HPr.out.at1 j hj6
          have z0 := HPr.out.free (j * 2)
          have z1 := HPr.out.free (j * 2 + 1)
          have hbr := HPr.out.lt
          clear hcc hx hx0 hj
          go_wp2
          go_roundw
          case rel => exact ⟨k + 1, by omega, by go_num, Lib.hid (by rw [HS.out, HJ.out]; exact HPr.out.set j hj6 x 0), Lib.hid (grown_set8 (grown_set8 HGr.out))⟩
          case measure => simp [intOf] <;> omega
        · have hkm : k = m := by omega
          have hd : decide ((k : Int) < (m : Int)) = false := decide_eq_false (by omega)
          have HFIN := Lib.hid (show Pm mb bb wr (loadM M a bs) from by have := HPr.out; rw [hkm, ← HN.out, List.take_length] at this; exact this)
          go_wp2
          go_ret
          have hf := HF.out
          subst hf
          exact ⟨rfl, HGr.out, HFIN.out⟩
end Go.Proofs.YtcnejgilmciljaaGreatDoor
