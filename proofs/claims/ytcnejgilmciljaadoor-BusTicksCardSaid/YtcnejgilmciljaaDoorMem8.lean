/-
  The program: which kind two addresses both have, off its table of areas; whether they are of one kind.
  Layer 8: the zero value of an array of 65536 bytes.
  Arrays compared: element by element.
  The program's memory: an array of 65536 bytes behind a pointer; what a store makes of it; arrays loaded whole, and compared.
-/
import Derived.Test.YtcnejgilmciljaaDoorAt8
import Derived.Laws.Rows
import Derived.Test.YtcnejgilmciljaaDoorEnts
import Derived.Laws.StructEq
import Derived.Test.YtcnejgilmciljaaDoorBs13
import Derived.Laws.Tables
set_option linter.unusedSimpArgs false
set_option linter.unusedVariables false
namespace Go.Proofs.YtcnejgilmciljaaDoor
open Go.RowKit Go.PlainAid

/-- The areas: kind, first and last address. -/
structure Aq where
  k : Int
  lo : Int
  hi : Int
def areaL : List Aq := [⟨1, 0, 32767⟩, ⟨2, 32768, 32783⟩, ⟨3, 32784, 49151⟩, ⟨4, 49152, 65535⟩]
def areaA : Array Value := #[.int .i64 1, .int .i64 0, .int .i64 32767, .int .i64 2, .int .i64 32768, .int .i64 32783, .int .i64 3, .int .i64 32784, .int .i64 49151, .int .i64 4, .int .i64 49152, .int .i64 65535]
/-- The program's table lies in its variable. -/
def Laid (w : World) : Prop := ∃ t fr, w.heap[0]? = some (.cells areaA t fr)
theorem Laid.lt {w : World} (h : Laid w) : 0 < w.heap.size := by
  obtain ⟨t, fr, h⟩ := h
  exact (Array.getElem?_eq_some_iff.1 h).1
theorem Laid.keep {w u : World} (h : Laid w) (e : u.heap[0]? = w.heap[0]?) : Laid u := by
  obtain ⟨t, fr, h⟩ := h
  exact ⟨t, fr, e.trans h⟩
theorem Laid.below {w u : World} (h : Laid w) (hb : Below w.heap.size w u) : Laid u := h.keep (hb.block 0 h.lt)
def insB (x : Aq) (f t : Int) : Bool := (decide (x.lo ≤ f) && decide (f ≤ x.hi)) && (decide (x.lo ≤ t) && decide (t ≤ x.hi))
def kindL (f t : Int) : List Aq → Int
  | [] => 0
  | x :: r => if insB x f t = true then x.k else kindL f t r
def kindI (f t : Int) : Int := kindL f t areaL
theorem laid_cell {w : World} (h : Laid w) (i : Nat) : w.cell? ⟨0, i, none⟩ = areaA[i]? := by
  obtain ⟨t, fr, h⟩ := h
  exact cell_of_row w 0 i areaA t fr h
set_option maxRecDepth 100000 in
theorem index_areas (k : Nat) (x : Aq) (hx : areaL[k]? = some x) (w : World) : (Instr.index 123 (.agg areaA) (.int .i64 (k : Int))).run Tryd.prog w = .ok (.agg #[.int .i64 x.k, .int .i64 x.lo, .int .i64 x.hi]) w := by
  match k, hx with
  | 0, hx => obtain rfl := Option.some.inj hx; exact (by kernel_rfl : _ = _)
  | 1, hx => obtain rfl := Option.some.inj hx; exact (by kernel_rfl : _ = _)
  | 2, hx => obtain rfl := Option.some.inj hx; exact (by kernel_rfl : _ = _)
  | 3, hx => obtain rfl := Option.some.inj hx; exact (by kernel_rfl : _ = _)
  | n + 4, hx => exact absurd hx (by simp [areaL])
theorem index_two (a b : Int) (w : World) : (Instr.index 124 (.agg #[.int .i64 a, .int .i64 b]) (.int .i64 0)).run Tryd.prog w = .ok (.int .i64 a) w ∧ (Instr.index 124 (.agg #[.int .i64 a, .int .i64 b]) (.int .i64 1)).run Tryd.prog w = .ok (.int .i64 b) w := by
  constructor <;> kernel_rfl
set_option maxRecDepth 100000 in
set_option maxHeartbeats 2000000 in
theorem kindp_c (f t : Int) (w : World) (hL : Laid w) : Calls Tryd.prog 65 #[.int .i64 f, .int .i64 t] w fun e w' => e = .returned (.int .i64 (kindI f t)) ∧ Below w.heap.size w w' := by
  obtain ⟨R, hR⟩ : ∃ R, kindI f t = R := ⟨_, rfl⟩
  rw [hR]
  have HR := Lib.hid hR
  clear hR
  have HIX := Lib.hid (fun k x hx W => index_areas k x hx W)
  unfold areaA at HIX
  have c0 := laid_cell hL 0
  have c1 := laid_cell hL 1
  have c2 := laid_cell hL 2
  have c3 := laid_cell hL 3
  have c4 := laid_cell hL 4
  have c5 := laid_cell hL 5
  have c6 := laid_cell hL 6
  have c7 := laid_cell hL 7
  have c8 := laid_cell hL 8
  have c9 := laid_cell hL 9
  have c10 := laid_cell hL 10
  have c11 := laid_cell hL 11
  simp only [areaA, List.size_toArray, List.length_cons, List.length_nil, List.getElem?_toArray, List.getElem?_cons_zero, List.getElem?_cons_succ] at c0 c1 c2 c3 c4 c5 c6 c7 c8 c9 c10 c11
  have hi0 := fun W => (index_two f t W).1
  have hi1 := fun W => (index_two f t W).2
  go_enter Tryd.func65, Tryd.ntmps65
  go_wp2_with fail
  refine wp_scope_hid 0 fun C hC => ?_
  go_wp2_with fail
  apply wp_label
  go_wp2_with fail
  go_loopw [10] (fun i wr => ∃ k : Nat, k ≤ 4 ∧ i = .int .i64 k ∧ Hid (kindL f t (areaL.drop k) = R) ∧ Below w.heap.size w wr) (fun i _ => 4 - (intOf i).toNat)
  case atStart => exact ⟨0, by omega, rfl, HR, by go_grown⟩
  case round =>
    obtain ⟨k, hk, rfl, HK, hB⟩ := hrel
    by_cases hlt : k < 4
    · have hd : decide ((k : Int) < 4) = true := decide_eq_true (by omega)
      have hlk : k < areaL.length := hlt
      obtain ⟨x, hx⟩ : ∃ x, areaL[k]? = some x := ⟨_, List.getElem?_eq_getElem hlk⟩
      have hst := HK.out
      rw [List.drop_eq_getElem_cons hlk, kindL] at hst
      rw [List.getElem?_eq_getElem hlk] at hx
      rw [Option.some.inj hx] at hst
      have hix := HIX.out k x (by rw [List.getElem?_eq_getElem hlk]; exact hx)
      obtain ⟨xk, xlo, xhi⟩ := x
      dsimp only at hix hst
      have hw1 : IntKind.i64.wrap ((k : Int) + 1) = (k : Int) + 1 := IntWalk.i64_in _ (by omega)
      have hsz := hB.size
      have HST := Lib.hid hst
      clear hst hx HK
      have HIN := Lib.hid (show insB ⟨xk, xlo, xhi⟩ f t = true → xk = R from fun h => by have := HST.out; rwa [if_pos h] at this)
      have HOUT := Lib.hid (show insB ⟨xk, xlo, xhi⟩ f t = false → kindL f t (areaL.drop (k + 1)) = R from fun h => by have := HST.out; rwa [if_neg (by rw [h]; simp)] at this)
      have HE := Lib.hid (show insB ⟨xk, xlo, xhi⟩ f t = ((decide (xlo ≤ f) && decide (f ≤ xhi)) && (decide (xlo ≤ t) && decide (t ≤ xhi))) from rfl)
      generalize insB ⟨xk, xlo, xhi⟩ f t = I at HIN HOUT HE
      clear HST
      by_cases d1 : f < xlo
      · go_wp2_with fail
        refine wp_loop_rounds 3 ?_
        rw [rounds_succ]
        have HF := Lib.hid (HOUT.out (by rw [HE.out]; simp; omega))
        go_wp2
        go_roundw
        case rel => exact ⟨k + 1, by omega, by go_num, HF, by go_grown⟩
        case measure => simp [intOf] <;> omega
      · by_cases d2 : xhi < f
        · go_wp2_with fail
          refine wp_loop_rounds 3 ?_
          rw [rounds_succ]
          have HF := Lib.hid (HOUT.out (by rw [HE.out]; simp; omega))
          go_wp2
          go_roundw
          case rel => exact ⟨k + 1, by omega, by go_num, HF, by go_grown⟩
          case measure => simp [intOf] <;> omega
        · by_cases d3 : t < xlo
          · go_wp2_with fail
            refine wp_loop_rounds 3 ?_
            rw [rounds_succ]
            go_wp2_with fail
            rw [rounds_succ]
            have HF := Lib.hid (HOUT.out (by rw [HE.out]; simp; omega))
            go_wp2
            go_roundw
            case rel => exact ⟨k + 1, by omega, by go_num, HF, by go_grown⟩
            case measure => simp [intOf] <;> omega
          · by_cases d4 : xhi < t
            · go_wp2_with fail
              refine wp_loop_rounds 3 ?_
              rw [rounds_succ]
              go_wp2_with fail
              rw [rounds_succ]
              have HF := Lib.hid (HOUT.out (by rw [HE.out]; simp; omega))
              go_wp2
              go_roundw
              case rel => exact ⟨k + 1, by omega, by go_num, HF, by go_grown⟩
              case measure => simp [intOf] <;> omega
            · have HF := Lib.hid (HIN.out (by rw [HE.out]; simp; omega))
              go_wp2_with fail
              refine wp_loop_rounds 3 ?_
              rw [rounds_succ]
              go_wp2_with fail
              rw [rounds_succ]
              go_wp2_with fail
              rw [rounds_succ]
              go_wp2
              rw [Into.ret]
              go_ret
              exact ⟨ret_i64 HF.out, by go_grown⟩
    · have HF := Lib.hid (show R = 0 from by
        have h := HK.out
        rw [show k = 4 by omega] at h
        exact h.symm)
      have hd : decide ((k : Int) < 4) = false := decide_eq_false (by omega)
      go_wp2
      rw [Into.ret]
      go_ret
      exact ⟨ret_i64 HF.out.symm, hB⟩
/-- Addresses of one kind, the first one not above the last. -/
def onlyB (f t : Int) : Bool := decide (f ≤ t) && (kindI f t == 1 || kindI f t == 4)
set_option maxRecDepth 100000 in
set_option maxHeartbeats 2000000 in
theorem onep_c (f t : Int) (w : World) (hL : Laid w) : Calls Tryd.prog 54 #[.int .i64 f, .int .i64 t] w fun e w' => e = .returned (.bool (onlyB f t)) ∧ Below w.heap.size w w' := by
  have HK := Lib.hid (fun W (hb : Below w.heap.size w W) => kindp_c f t W (hL.below hb))
  obtain ⟨R, hR⟩ : ∃ R, onlyB f t = R := ⟨_, rfl⟩
  rw [hR]
  have HR := Lib.hid hR
  clear hR
  unfold onlyB at HR
  generalize kindI f t = K at *
  go_enter Tryd.func54, Tryd.ntmps54
  go_wp2_with fail
  ((with_reducible refine (HK.out _ (by go_grown)).mono ?_); rintro _ u1 ⟨rfl, hb⟩)
  have hz := hb.size
  (try simp only [World.size_alloc, World.size_setCell, World.size_drew] at hz)
  have hB' : Below w.heap.size w u1 := by
      refine kb ?_ hb
      go_grown
  clear hb hz
  have hB := hB'; clear hB'
  have hsz := hB.size
  cases d1 : decide (f ≤ t)
  · have HF := Lib.hid (show R = false from by rw [← HR.out, d1]; rfl)
    go_wp2
    go_ret
    exact ⟨ret_bool HF.out.symm, hB⟩
  · cases d2 : (K == 1)
    · cases d3 : (K == 4)
      · have HF := Lib.hid (show R = false from by rw [← HR.out, d1, d2, d3]; rfl)
        go_wp2
        go_ret
        exact ⟨ret_bool HF.out.symm, hB⟩
      · have HF := Lib.hid (show R = true from by rw [← HR.out, d1, d2, d3]; rfl)
        go_wp2
        go_ret
        exact ⟨ret_bool HF.out.symm, hB⟩
    · have HF := Lib.hid (show R = true from by rw [← HR.out, d1, d2]; rfl)
      go_wp2
      go_ret
      exact ⟨ret_bool HF.out.symm, hB⟩
theorem insB_iff (x : Aq) (f t : Int) : insB x f t = true ↔ (x.lo ≤ f ∧ f ≤ x.hi) ∧ (x.lo ≤ t ∧ t ≤ x.hi) := by
  unfold insB
  simp only [Bool.and_eq_true, decide_eq_true_eq]
/-- What a kind tells. -/
theorem kindI_cases (f t : Int) : (kindI f t = 1 ∧ ramB f = true ∧ ramB t = true) ∨ (kindI f t = 2 ∧ devB f = true ∧ devB t = true) ∨ (kindI f t = 3 ∧ (32784 ≤ f ∧ f < 49152) ∧ (32784 ≤ t ∧ t < 49152)) ∨ (kindI f t = 4 ∧ romB f = true ∧ romB t = true) ∨
    (kindI f t = 0 ∧ ¬ (ramB f = true ∧ ramB t = true) ∧ ¬ (devB f = true ∧ devB t = true) ∧ ¬ ((32784 ≤ f ∧ f < 49152) ∧ (32784 ≤ t ∧ t < 49152)) ∧ ¬ (romB f = true ∧ romB t = true)) := by
  unfold ramB romB devB
  simp only [Bool.and_eq_true, decide_eq_true_eq]
  unfold kindI areaL
  simp only [kindL, insB_iff]
  split
  · left; omega
  · split
    · right; left; omega
    · split
      · right; right; left; omega
      · split
        · right; right; right; left; omega
        · right; right; right; right; omega
theorem onlyB_eq (f t : Int) : onlyB f t = !(decide (t < f) || !oneB f t) := by
  have h := kindI_cases f t
  unfold onlyB oneB
  rw [Bool.eq_iff_iff]
  simp only [Bool.not_eq_true', Bool.or_eq_false_iff, Bool.not_eq_false', decide_eq_false_iff_not, Bool.and_eq_true, Bool.or_eq_true, decide_eq_true_eq, beq_iff_eq]
  unfold ramB romB devB at *
  simp only [Bool.and_eq_true, decide_eq_true_eq] at *
  omega
end Go.Proofs.YtcnejgilmciljaaDoor
set_option linter.unusedSimpArgs false
set_option linter.unusedVariables false
namespace Go.Proofs.YtcnejgilmciljaaDoor
open Go.RowKit Go.PlainAid
set_option maxRecDepth 100000

theorem twice {α : Type} {a : List α} {z : α} {m : Nat} (h : a = List.replicate m z) : List.append a a = List.replicate (m + m) z := by
  subst h
  exact List.replicate_append_replicate
/-- The cells of 65536 bytes that are 0, not secret. -/
def zeroA : Array Value := (List.replicate 131072 (Value.int .u8 0)).toArray
theorem zeroA_size : zeroA.size = 131072 := by unfold zeroA; rw [List.size_toArray, List.length_replicate]
theorem zeroA_get (i : Nat) (h : i < 131072) : zeroA[i]? = some (.int .u8 0) := by
  unfold zeroA
  rw [List.getElem?_toArray, List.getElem?_replicate, if_pos h]
theorem zero_cells : Tryd.t77.zero = some (.agg zeroA) := by
  unfold Tryd.t77
  refine congrArg (fun l : List Value => some (Value.agg l.toArray)) ?_
  refine (twice (m := 65536) ?_)
  refine (twice (m := 32768) ?_)
  refine (twice (m := 16384) ?_)
  refine (twice (m := 8192) ?_)
  refine (twice (m := 4096) ?_)
  refine (twice (m := 2048) ?_)
  refine (twice (m := 1024) ?_)
  refine (twice (m := 512) ?_)
  refine (twice (m := 256) ?_)
  refine (twice (m := 128) ?_)
  first | (refine (twice (m := 64) ?_); rfl) | rfl
theorem zeroArr (w : World) : (zeroValue 77).run Tryd.prog w = .ok (.agg zeroA) w := by
  unfold zeroValue
  rw [Sem.run_bind, Tryd.typeInfo77]
  simp only [Result.andThen_ok, zero_cells, Sem.run_pure]
end Go.Proofs.YtcnejgilmciljaaDoor
set_option linter.unusedSimpArgs false
set_option linter.unusedVariables false
namespace Go.Proofs.YtcnejgilmciljaaDoor
open Go.RowKit Go.PlainAid

section
variable {P : Program}
theorem eq_rounds (w : World) (d n : Nat) (e : TypeId) (xs ys : Array Value) (q : Nat → Bool) : ∀ l : List Nat,
    (∀ i ∈ l, ((do
      let a ← part e xs (i * n)
      let b ← part e ys (i * n)
      Op.equalIn d e a b : Sem Bool)).run P w = .ok (q i) w) →
    ((do
      for i in l do
        if !(← Op.equalIn d e (← part e xs (i * n)) (← part e ys (i * n))) then return false
      pure true : Sem Bool)).run P w = .ok (l.all q) w
  | [], _ => by simp
  | i :: r, h => by
    have h0 := h i (List.mem_cons_self ..)
    have h1 := eq_rounds w d n e xs ys q r (fun j hj => h j (List.mem_cons_of_mem _ hj))
    simp only [List.forIn_cons, Sem.run_bind] at h0 h1 ⊢
    cases hp : (part e xs (i * n)).run P w with
    | halt x w1 => rw [hp] at h0; simp [Result.andThen] at h0
    | ok a w1 =>
      rw [hp] at h0
      simp only [Result.andThen_ok] at h0 ⊢
      cases hq : (part e ys (i * n)).run P w1 with
      | halt x w2 => rw [hq] at h0; simp [Result.andThen] at h0
      | ok b w2 =>
        rw [hq] at h0
        simp only [Result.andThen_ok] at h0 ⊢
        rw [h0]
        simp only [Result.andThen_ok, List.all_cons]
        cases hqi : q i
        · simp
        · simp only [Bool.not_true, Bool.false_eq_true, if_false, Sem.run_pure, Result.andThen_ok, Bool.true_and]
          exact h1
theorem run_equalIn_arr (w : World) (d : Nat) (t e : TypeId) (len n : Nat) (xs ys : Array Value) (q : Nat → Bool) (ht : P.underlying t = some (.array len e)) (hn : (sizeOf e).run P w = .ok n w)
    (h : ∀ i, i < len → ((do
      let a ← part e xs (i * n)
      let b ← part e ys (i * n)
      Op.equalIn d e a b : Sem Bool)).run P w = .ok (q i) w) : (Op.equalIn (d + 1) t (.agg xs) (.agg ys)).run P w = .ok ((List.range len).all q) w := by
  have h1 := eq_rounds w d n e xs ys q (List.range len) (fun i hi => h i (List.mem_range.1 hi))
  simp only [Op.equalIn, Sem.run_bind, run_underlying ht, Result.andThen_ok, hn, Std.Legacy.Range.forIn_eq_forIn_range', Std.Legacy.Range.size]
  rw [List.range_eq_range'] at h1 ⊢
  simp only [Sem.run_bind] at h1
  simp at h1 ⊢
  exact h1
theorem run_eql_arr (w : World) (t e : TypeId) (len n : Nat) (xs ys : Array Value) (q : Nat → Bool) (ht : P.underlying t = some (.array len e)) (hn : (sizeOf e).run P w = .ok n w)
    (h : ∀ i, i < len → ((do
      let a ← part e xs (i * n)
      let b ← part e ys (i * n)
      Op.equalIn 9999 e a b : Sem Bool)).run P w = .ok (q i) w) : (binOp .eql t (.agg xs) (.agg ys)).run P w = .ok (.bool ((List.range len).all q)) w := by
  rw [run_eql_struct, run_equalIn_arr w 9999 t e len n xs ys q ht hn h]
  rfl
end
/-- Two bytes compared. -/
theorem eq_byte (v t v' t' : Int) (w : World) : (Op.equalIn 9999 23 (.agg #[.int .u8 v, .int .u8 t]) (.agg #[.int .u8 v', .int .u8 t'])).run Tryd.prog w = .ok ((v == v') && (t == t')) w := by
  cases h1 : v == v' <;> cases h2 : t == t' <;> (go_simp <;> simp [h1, h2])
end Go.Proofs.YtcnejgilmciljaaDoor
set_option linter.unusedSimpArgs false
set_option linter.unusedVariables false
namespace Go.Proofs.YtcnejgilmciljaaDoor
open Go.RowKit Go.PlainAid

/-- The cells of an array that hold these bytes. -/
structure Ar (A : Array Value) (M : Int → Int × Int) : Prop where
  sz : A.size = 131072
  at0 : ∀ k : Nat, k < 65536 → A[k * 2]? = some (.int .u8 (M k).1)
  at1 : ∀ k : Nat, k < 65536 → A[k * 2 + 1]? = some (.int .u8 (M k).2)
theorem Ar.zero : Ar zeroA (fun _ => (0, 0)) := ⟨zeroA_size, fun k h => zeroA_get _ (by omega), fun k h => zeroA_get _ (by omega)⟩
theorem Ar.one {A : Array Value} {M : Int → Int × Int} (h : Ar A M) : A.all (·.oneCell') = true := by
  refine Array.all_eq_true.2 fun i hi => ?_
  have hz := h.sz
  by_cases e : i % 2 = 0
  · have := h.at0 (i / 2) (by omega)
    rw [show i / 2 * 2 = i by omega, Array.getElem?_eq_getElem hi] at this
    rw [Option.some.inj this]; rfl
  · have := h.at1 (i / 2) (by omega)
    rw [show i / 2 * 2 + 1 = i by omega, Array.getElem?_eq_getElem hi] at this
    rw [Option.some.inj this]; rfl
/-- The program's memory at the block mb: its bytes lie in the block bb. -/
structure Pm (mb bb : Nat) (w : World) (M : Int → Int × Int) : Prop where
  c0 : w.cell? ⟨mb, 0, none⟩ = some (.pointer (some ⟨bb, 0, none⟩))
  row : ∃ A t, w.heap[bb]? = some (.cells A t (0, 0)) ∧ Ar A M
  ne : mb ≠ bb
  nz : bb ≠ 0
theorem Pm.lt {mb bb : Nat} {w : World} {M : Int → Int × Int} (h : Pm mb bb w M) : bb < w.heap.size := by
  obtain ⟨A, t, h, _⟩ := h.row
  exact (Array.getElem?_eq_some_iff.1 h).1
theorem Pm.at0 {mb bb : Nat} {w : World} {M : Int → Int × Int} (h : Pm mb bb w M) (k : Nat) (hk : k < 65536) : w.cell? ⟨bb, k * 2, none⟩ = some (.int .u8 (M k).1) := by
  obtain ⟨A, t, h, ha⟩ := h.row
  rw [cell_of_row w bb _ A t _ h]
  exact ha.at0 k hk
theorem Pm.at1 {mb bb : Nat} {w : World} {M : Int → Int × Int} (h : Pm mb bb w M) (k : Nat) (hk : k < 65536) : w.cell? ⟨bb, k * 2 + 1, none⟩ = some (.int .u8 (M k).2) := by
  obtain ⟨A, t, h, ha⟩ := h.row
  rw [cell_of_row w bb _ A t _ h]
  exact ha.at1 k hk
theorem Pm.free {mb bb : Nat} {w : World} {M : Int → Int × Int} (h : Pm mb bb w M) (j : Nat) : w.frozen? ⟨bb, j, none⟩ = false := by
  obtain ⟨A, t, h, ha⟩ := h.row
  exact frozen_of_row w bb j A t h
theorem Pm.keep {mb bb : Nat} {w u : World} {M : Int → Int × Int} (h : Pm mb bb w M) (h1 : u.heap[mb]? = w.heap[mb]?) (h2 : u.heap[bb]? = w.heap[bb]?) : Pm mb bb u M := by
  obtain ⟨A, t, h3, ha⟩ := h.row
  exact ⟨(World.cell?_of_block h1).trans h.c0, ⟨A, t, h2.trans h3, ha⟩, h.ne, h.nz⟩
theorem Pm.below {mb bb : Nat} {w u : World} {M : Int → Int × Int} (h : Pm mb bb w M) (hb : Below w.heap.size w u) : Pm mb bb u M :=
  h.keep (hb.block mb (klt h.c0)) (hb.block bb h.lt)
theorem ar_set0 {A : Array Value} {M : Int → Int × Int} (h : Ar A M) (k : Nat) (hk : k < 65536) (v : Int) : Ar (A.setIfInBounds (k * 2) (.int .u8 v)) (setM M k (v, (M k).2)) := by
  have hz := h.sz
  refine ⟨by simp [hz], fun j hj => ?_, fun j hj => ?_⟩
  · unfold setM
    by_cases e : j = k
    · subst e
      rw [if_pos rfl, Array.getElem?_setIfInBounds_self, if_pos (by omega)]
    · rw [if_neg (by omega), Array.getElem?_setIfInBounds_ne (by omega)]
      exact h.at0 j hj
  · unfold setM
    rw [Array.getElem?_setIfInBounds_ne (by omega)]
    by_cases e : j = k
    · subst e
      rw [if_pos rfl]; exact h.at1 j hj
    · rw [if_neg (by omega)]
      exact h.at1 j hj
theorem ar_set1 {A : Array Value} {M : Int → Int × Int} (h : Ar A M) (k : Nat) (hk : k < 65536) (v : Int) : Ar (A.setIfInBounds (k * 2 + 1) (.int .u8 v)) (setM M k ((M k).1, v)) := by
  have hz := h.sz
  refine ⟨by simp [hz], fun j hj => ?_, fun j hj => ?_⟩
  · unfold setM
    rw [Array.getElem?_setIfInBounds_ne (by omega)]
    by_cases e : j = k
    · subst e
      rw [if_pos rfl]; exact h.at0 j hj
    · rw [if_neg (by omega)]
      exact h.at0 j hj
  · unfold setM
    by_cases e : j = k
    · subst e
      rw [if_pos rfl, Array.getElem?_setIfInBounds_self, if_pos (by omega)]
    · rw [if_neg (by omega), Array.getElem?_setIfInBounds_ne (by omega)]
      exact h.at1 j hj
theorem Pm.set0 {mb bb : Nat} {w : World} {M : Int → Int × Int} (h : Pm mb bb w M) (k : Nat) (hk : k < 65536) (v : Int) : Pm mb bb (w.setCell ⟨bb, k * 2, none⟩ (.int .u8 v)) (setM M k (v, (M k).2)) := by
  obtain ⟨A, t, h3, ha⟩ := h.row
  refine ⟨?_, ⟨_, t, heap_setCell_same w bb (k * 2) A t _ h3, ar_set0 ha k hk v⟩, h.ne, h.nz⟩
  exact (World.cell?_of_block (heap_setCell_other w ⟨bb, k * 2, none⟩ mb _ h.ne)).trans h.c0
theorem Pm.set1 {mb bb : Nat} {w : World} {M : Int → Int × Int} (h : Pm mb bb w M) (k : Nat) (hk : k < 65536) (v : Int) : Pm mb bb (w.setCell ⟨bb, k * 2 + 1, none⟩ (.int .u8 v)) (setM M k ((M k).1, v)) := by
  obtain ⟨A, t, h3, ha⟩ := h.row
  refine ⟨?_, ⟨_, t, heap_setCell_same w bb (k * 2 + 1) A t _ h3, ar_set1 ha k hk v⟩, h.ne, h.nz⟩
  exact (World.cell?_of_block (heap_setCell_other w ⟨bb, k * 2 + 1, none⟩ mb _ h.ne)).trans h.c0
theorem setM_twice (M : Int → Int × Int) (k : Int) (x y : Int × Int) : setM (setM M k x) k y = setM M k y := by
  funext b
  unfold setM
  by_cases e : b = k <;> simp [e]
theorem setM_at (M : Int → Int × Int) (k : Int) (x : Int × Int) : setM M k x k = x := by
  unfold setM; rw [if_pos rfl]
theorem Pm.set {mb bb : Nat} {w : World} {M : Int → Int × Int} (h : Pm mb bb w M) (k : Nat) (hk : k < 65536) (v t : Int) : Pm mb bb ((w.setCell ⟨bb, k * 2, none⟩ (.int .u8 v)).setCell ⟨bb, k * 2 + 1, none⟩ (.int .u8 t)) (setM M k (v, t)) := by
  have := (h.set0 k hk v).set1 k hk t
  rw [setM_at, setM_twice] at this
  exact this
/-- Behind a store into its bytes all other blocks are as they were. -/
theorem grown_set8 {w u : World} {bb o : Nat} {v : Value} (h : w.grownBy u (some bb)) : w.grownBy (u.setCell ⟨bb, o, none⟩ v) (some bb) :=
  ⟨h.os, h.tape, h.output, by rw [World.size_setCell]; exact h.size, fun b hb hne => (heap_setCell_other u ⟨bb, o, none⟩ b v (by simpa using hne)).trans (h.block b hb hne)⟩
theorem grown_below {w u : World} {g : Option Nat} (h : Below w.heap.size w u) : w.grownBy u g := ⟨h.os, h.tape, h.output, h.size, fun b hb _ => h.block b hb⟩
/-- What a call that writes the program's memory answers, and what stands behind it. -/
def MemEnd (mb bb : Nat) (w : World) (E : Int) (M : Int → Int × Int) : Ending → World → Prop := fun e w' => e = .returned (.int .i64 E) ∧ w.grownBy w' (some bb) ∧ Pm mb bb w' M
theorem memEnd_same {mb bb : Nat} {w w' : World} {e : Int} {M : Int → Int × Int} {R : Int × (Int → Int × Int)} (h : R = (e, M)) (hP : Pm mb bb w M) (hb : Below w.heap.size w w') : MemEnd mb bb w R.1 R.2 (.returned (.int .i64 e)) w' := by
  subst h
  exact ⟨rfl, grown_below hb, hP.below hb⟩
theorem Pm.laid {mb bb : Nat} {w u : World} {M : Int → Int × Int} (h : Pm mb bb w M) (hL : Laid w) (hg : w.grownBy u (some bb)) : Laid u := hL.keep (hg.block 0 hL.lt (by have := h.nz; simpa using fun e : (0 : Nat) = bb => this e.symm))
/-! Arrays whole. -/
theorem under_arr : Tryd.prog.underlying 77 = some (.array 65536 23) := by kernel_rfl
theorem size_arr : (Tryd.prog.info? 77).map (·.size) = some 131072 := by kernel_rfl
theorem load_arr {w : World} {bb : Nat} {A : Array Value} {t : TypeId} (h : w.heap[bb]? = some (.cells A t (0, 0))) (hz : A.size = 131072) : (Instr.loadAt 77 (.pointer (some ⟨bb, 0, none⟩))).run Tryd.prog w = .ok (.agg A) w := by
  simp only [Instr.loadAt, Instr.sureAddr, Sem.run_bind, Sem.run_pure, Result.andThen_ok]
  exact run_loadVar_row _ _ t _ A _ _ h under_arr rfl (by rw [size_arr, hz])
def eqM (M N : Int → Int × Int) : Bool := (List.range 65536).all fun k => ((M k).1 == (N k).1) && ((M k).2 == (N k).2)
theorem eqM_iff (M N : Int → Int × Int) : eqM M N = true ↔ ∀ k : Nat, k < 65536 → M k = N k := by
  unfold eqM
  rw [List.all_eq_true]
  constructor
  · intro h k hk
    have := h k (List.mem_range.2 hk)
    simp only [Bool.and_eq_true, beq_iff_eq] at this
    exact Prod.ext this.1 this.2
  · intro h k hk
    rw [h k (List.mem_range.1 hk)]
    simp
theorem extract_two {A : Array Value} {i : Nat} {x y : Value} (h0 : A[i]? = some x) (h1 : A[i + 1]? = some y) : A.extract i (i + 2) = #[x, y] := by
  have hi : i + 1 < A.size := (Array.getElem?_eq_some_iff.1 h1).1
  apply Array.ext_getElem?
  intro j
  rw [Array.getElem?_extract]
  match j with
  | 0 => rw [if_pos (by omega), Nat.add_zero, h0]; rfl
  | 1 => rw [if_pos (by omega), h1]; rfl
  | j + 2 => rw [if_neg (by omega)]; simp
theorem part_byte {A : Array Value} {i : Nat} {x y : Value} (h0 : A[i]? = some x) (h1 : A[i + 1]? = some y) (w : World) : (part 23 A i).run Tryd.prog w = .ok (.agg #[x, y]) w := by
  have ha : (isAgg 23).run Tryd.prog w = .ok true w := by kernel_rfl
  have hs : (sizeOf 23).run Tryd.prog w = .ok 2 w := by kernel_rfl
  unfold part
  simp only [Sem.run_bind, ha, hs, Result.andThen_ok, if_true, Sem.run_pure, extract_two h0 h1]
theorem eql_arr {A B : Array Value} {M N : Int → Int × Int} (hA : Ar A M) (hB : Ar B N) (w : World) : (binOp .eql 77 (.agg A) (.agg B)).run Tryd.prog w = .ok (.bool (eqM M N)) w := by
  refine run_eql_arr w _ 23 65536 2 A B _ under_arr (by kernel_rfl) fun i hi => ?_
  simp only [Sem.run_bind, part_byte (hA.at0 i hi) (hA.at1 i hi), part_byte (hB.at0 i hi) (hB.at1 i hi), Result.andThen_ok, eq_byte]
end Go.Proofs.YtcnejgilmciljaaDoor
