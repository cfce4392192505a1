/-
  The program: which kind two addresses both have, off its table of areas; whether they are of one kind.
-/
import Derived.Test.YtcilnbkmaoneaaaDoorLabel8
import Derived.Laws.Rows
set_option linter.unusedSimpArgs false
set_option linter.unusedVariables false
namespace Go.Proofs.YtcilnbkmaoneaaaDoor
open Go.RowKit Go.PlainAid

/-- The areas: kind, first and last address. -/
structure Aq where
  k : Int
  lo : Int
  hi : Int
def areaL : List Aq := [⟨1, 0, 32767⟩, ⟨2, 32768, 32783⟩, ⟨3, 32784, 49151⟩, ⟨4, 49152, 65535⟩]
def areaA : Array Value := #[.int .i64 1, .int .i64 0, .int .i64 32767, .int .i64 2, .int .i64 32768, .int .i64 32783, .int .i64 3, .int .i64 32784, .int .i64 49151, .int .i64 4, .int .i64 49152, .int .i64 65535]
/-- The program's table lies in its variable. -/
def Laid (w : World) : Prop := ∃ t fr, w.heap[0]? = some (.cells areaA t fr)
theorem Laid.lt {w : World} (h : Laid w) : 0 < w.heap.size := by
  obtain ⟨t, fr, h⟩ := h
  exact (Array.getElem?_eq_some_iff.1 h).1
theorem Laid.keep {w u : World} (h : Laid w) (e : u.heap[0]? = w.heap[0]?) : Laid u := by
  obtain ⟨t, fr, h⟩ := h
  exact ⟨t, fr, e.trans h⟩
theorem Laid.below {w u : World} (h : Laid w) (hb : Below w.heap.size w u) : Laid u := h.keep (hb.block 0 h.lt)
def insB (x : Aq) (f t : Int) : Bool := (decide (x.lo ≤ f) && decide (f ≤ x.hi)) && (decide (x.lo ≤ t) && decide (t ≤ x.hi))
def kindL (f t : Int) : List Aq → Int
  | [] => 0
  | x :: r => if insB x f t = true then x.k else kindL f t r
def kindI (f t : Int) : Int := kindL f t areaL
theorem laid_cell {w : World} (h : Laid w) (i : Nat) : w.cell? ⟨0, i, none⟩ = areaA[i]? := by
  obtain ⟨t, fr, h⟩ := h
  exact cell_of_row w 0 i areaA t fr h
set_option maxRecDepth 100000 in
theorem index_areas (k : Nat) (x : Aq) (hx : areaL[k]? = some x) (w : World) : (Instr.index 93 (.agg areaA) (.int .i64 (k : Int))).run Tryd.prog w = .ok (.agg #[.int .i64 x.k, .int .i64 x.lo, .int .i64 x.hi]) w := by
  match k, hx with
  | 0, hx => obtain rfl := Option.some.inj hx; exact (by kernel_rfl : _ = _)
  | 1, hx => obtain rfl := Option.some.inj hx; exact (by kernel_rfl : _ = _)
  | 2, hx => obtain rfl := Option.some.inj hx; exact (by kernel_rfl : _ = _)
  | 3, hx => obtain rfl := Option.some.inj hx; exact (by kernel_rfl : _ = _)
  | n + 4, hx => exact absurd hx (by simp [areaL])
theorem index_two (a b : Int) (w : World) : (Instr.index 94 (.agg #[.int .i64 a, .int .i64 b]) (.int .i64 0)).run Tryd.prog w = .ok (.int .i64 a) w ∧ (Instr.index 94 (.agg #[.int .i64 a, .int .i64 b]) (.int .i64 1)).run Tryd.prog w = .ok (.int .i64 b) w := by
  constructor <;> kernel_rfl
set_option maxRecDepth 100000 in
set_option maxHeartbeats 2000000 in
theorem kindp_c (f t : Int) (w : World) (hL : Laid w) : Calls Tryd.prog 32 #[.int .i64 f, .int .i64 t] w fun e w' => e = .returned (.int .i64 (kindI f t)) ∧ Below w.heap.size w w' := by
  obtain ⟨R, hR⟩ : ∃ R, kindI f t = R := ⟨_, rfl⟩
  rw [hR]
  have HR := Lib.hid hR
  clear hR
  have HIX := Lib.hid (fun k x hx W => index_areas k x hx W)
  unfold areaA at HIX
  have c0 := laid_cell hL 0
  have c1 := laid_cell hL 1
  have c2 := laid_cell hL 2
  have c3 := laid_cell hL 3
  have c4 := laid_cell hL 4
  have c5 := laid_cell hL 5
  have c6 := laid_cell hL 6
  have c7 := laid_cell hL 7
  have c8 := laid_cell hL 8
  have c9 := laid_cell hL 9
  have c10 := laid_cell hL 10
  have c11 := laid_cell hL 11
  simp only [areaA, List.size_toArray, List.length_cons, List.length_nil, List.getElem?_toArray, List.getElem?_cons_zero, List.getElem?_cons_succ] at c0 c1 c2 c3 c4 c5 c6 c7 c8 c9 c10 c11
  have hi0 := fun W => (index_two f t W).1
  have hi1 := fun W => (index_two f t W).2
  go_enter Tryd.func32, Tryd.ntmps32
  go_wp2_with fail
  refine wp_scope_hid 0 fun C hC => ?_
  go_wp2_with fail
  apply wp_label
  go_wp2_with fail
  go_loopw [10] (fun i wr => ∃ k : Nat, k ≤ 4 ∧ i = .int .i64 k ∧ Hid (kindL f t (areaL.drop k) = R) ∧ Below w.heap.size w wr) (fun i _ => 4 - (intOf i).toNat)
  case atStart => exact ⟨0, by omega, rfl, HR, by go_grown⟩
  case round =>
    obtain ⟨k, hk, rfl, HK, hB⟩ := hrel
    by_cases hlt : k < 4
    · have hd : decide ((k : Int) < 4) = true := decide_eq_true (by omega)
      have hlk : k < areaL.length := hlt
      obtain ⟨x, hx⟩ : ∃ x, areaL[k]? = some x := ⟨_, List.getElem?_eq_getElem hlk⟩
      have hst := HK.out
      rw [List.drop_eq_getElem_cons hlk, kindL] at hst
      rw [List.getElem?_eq_getElem hlk] at hx
      rw [Option.some.inj hx] at hst
      have hix := HIX.out k x (by rw [List.getElem?_eq_getElem hlk]; exact hx)
      obtain ⟨xk, xlo, xhi⟩ := x
      dsimp only at hix hst
      have hw1 : IntKind.i64.wrap ((k : Int) + 1) = (k : Int) + 1 := IntWalk.i64_in _ (by omega)
      have hsz := hB.size
      have HST := Lib.hid hst
      clear hst hx HK
      have HIN := Lib.hid (show insB ⟨xk, xlo, xhi⟩ f t = true → xk = R from fun h => by have := HST.out; rwa [if_pos h] at this)
      have HOUT := Lib.hid (show insB ⟨xk, xlo, xhi⟩ f t = false → kindL f t (areaL.drop (k + 1)) = R from fun h => by have := HST.out; rwa [if_neg (by rw [h]; simp)] at this)
      have HE := Lib.hid (show insB ⟨xk, xlo, xhi⟩ f t = ((decide (xlo ≤ f) && decide (f ≤ xhi)) && (decide (xlo ≤ t) && decide (t ≤ xhi))) from rfl)
      generalize insB ⟨xk, xlo, xhi⟩ f t = I at HIN HOUT HE
      clear HST
      by_cases d1 : f < xlo
      · go_wp2_with fail
        refine wp_loop_rounds 3 ?_
        rw [rounds_succ]
        have HF := Lib.hid (HOUT.out (by rw [HE.out]; simp; omega))
        go_wp2
        go_roundw
        case rel => exact ⟨k + 1, by omega, by go_num, HF, by go_grown⟩
        case measure => simp [intOf] <;> omega
      · by_cases d2 : xhi < f
        · go_wp2_with fail
          refine wp_loop_rounds 3 ?_
          rw [rounds_succ]
          have HF := Lib.hid (HOUT.out (by rw [HE.out]; simp; omega))
          go_wp2
          go_roundw
          case rel => exact ⟨k + 1, by omega, by go_num, HF, by go_grown⟩
          case measure => simp [intOf] <;> omega
        · by_cases d3 : t < xlo
          · go_wp2_with fail
            refine wp_loop_rounds 3 ?_
            rw [rounds_succ]
            go_wp2_with fail
            rw [rounds_succ]
            have HF := Lib.hid (HOUT.out (by rw [HE.out]; simp; omega))
            go_wp2
            go_roundw
            case rel => exact ⟨k + 1, by omega, by go_num, HF, by go_grown⟩
            case measure => simp [intOf] <;> omega
          · by_cases d4 : xhi < t
            · go_wp2_with fail
              refine wp_loop_rounds 3 ?_
              rw [rounds_succ]
              go_wp2_with fail
              rw [rounds_succ]
              have HF := Lib.hid (HOUT.out (by rw [HE.out]; simp; omega))
              go_wp2
              go_roundw
              case rel => exact ⟨k + 1, by omega, by go_num, HF, by go_grown⟩
              case measure => simp [intOf] <;> omega
            · have HF := Lib.hid (HIN.out (by rw [HE.out]; simp; omega))
              go_wp2_with fail
              refine wp_loop_rounds 3 ?_
              rw [rounds_succ]
              go_wp2_with fail
              rw [rounds_succ]
              go_wp2_with fail
              rw [rounds_succ]
              go_wp2
              rw [Into.ret]
              go_ret
              exact ⟨ret_i64 HF.out, by go_grown⟩
    · have HF := Lib.hid (show R = 0 from by
        have h := HK.out
        rw [show k = 4 by omega] at h
        exact h.symm)
      have hd : decide ((k : Int) < 4) = false := decide_eq_false (by omega)
      go_wp2
      rw [Into.ret]
      go_ret
      exact ⟨ret_i64 HF.out.symm, hB⟩
/-- Addresses of one kind, the first one not above the last. -/
def onlyB (f t : Int) : Bool := decide (f ≤ t) && (kindI f t == 1 || kindI f t == 4)
set_option maxRecDepth 100000 in
set_option maxHeartbeats 2000000 in
theorem onep_c (f t : Int) (w : World) (hL : Laid w) : Calls Tryd.prog 36 #[.int .i64 f, .int .i64 t] w fun e w' => e = .returned (.bool (onlyB f t)) ∧ Below w.heap.size w w' := by
  have HK := Lib.hid (fun W (hb : Below w.heap.size w W) => kindp_c f t W (hL.below hb))
  obtain ⟨R, hR⟩ : ∃ R, onlyB f t = R := ⟨_, rfl⟩
  rw [hR]
  have HR := Lib.hid hR
  clear hR
  unfold onlyB at HR
  generalize kindI f t = K at *
  go_enter Tryd.func36, Tryd.ntmps36
  go_wp2_with fail
  ((with_reducible refine (HK.out _ (by go_grown)).mono ?_); rintro _ u1 ⟨rfl, hb⟩)
  have hz := hb.size
  (try simp only [World.size_alloc, World.size_setCell, World.size_drew] at hz)
  have hB' : Below w.heap.size w u1 := by
      refine kb ?_ hb
      go_grown
  clear hb hz
  have hB := hB'; clear hB'
  have hsz := hB.size
  cases d1 : decide (f ≤ t)
  · have HF := Lib.hid (show R = false from by rw [← HR.out, d1]; rfl)
    go_wp2
    go_ret
    exact ⟨ret_bool HF.out.symm, hB⟩
  · cases d2 : (K == 1)
    · cases d3 : (K == 4)
      · have HF := Lib.hid (show R = false from by rw [← HR.out, d1, d2, d3]; rfl)
        go_wp2
        go_ret
        exact ⟨ret_bool HF.out.symm, hB⟩
      · have HF := Lib.hid (show R = true from by rw [← HR.out, d1, d2, d3]; rfl)
        go_wp2
        go_ret
        exact ⟨ret_bool HF.out.symm, hB⟩
    · have HF := Lib.hid (show R = true from by rw [← HR.out, d1, d2]; rfl)
      go_wp2
      go_ret
      exact ⟨ret_bool HF.out.symm, hB⟩
theorem insB_iff (x : Aq) (f t : Int) : insB x f t = true ↔ (x.lo ≤ f ∧ f ≤ x.hi) ∧ (x.lo ≤ t ∧ t ≤ x.hi) := by
  unfold insB
  simp only [Bool.and_eq_true, decide_eq_true_eq]
/-- What a kind tells. -/
theorem kindI_cases (f t : Int) : (kindI f t = 1 ∧ ramB f = true ∧ ramB t = true) ∨ (kindI f t = 2 ∧ devB f = true ∧ devB t = true) ∨ (kindI f t = 3 ∧ (32784 ≤ f ∧ f < 49152) ∧ (32784 ≤ t ∧ t < 49152)) ∨ (kindI f t = 4 ∧ romB f = true ∧ romB t = true) ∨
    (kindI f t = 0 ∧ ¬ (ramB f = true ∧ ramB t = true) ∧ ¬ (devB f = true ∧ devB t = true) ∧ ¬ ((32784 ≤ f ∧ f < 49152) ∧ (32784 ≤ t ∧ t < 49152)) ∧ ¬ (romB f = true ∧ romB t = true)) := by
  unfold ramB romB devB
  simp only [Bool.and_eq_true, decide_eq_true_eq]
  unfold kindI areaL
  simp only [kindL, insB_iff]
  split
  · left; omega
  · split
    · right; left; omega
    · split
      · right; right; left; omega
      · split
        · right; right; right; left; omega
        · right; right; right; right; omega
theorem onlyB_eq (f t : Int) : onlyB f t = !(decide (t < f) || !oneB f t) := by
  have h := kindI_cases f t
  unfold onlyB oneB
  rw [Bool.eq_iff_iff]
  simp only [Bool.not_eq_true', Bool.or_eq_false_iff, Bool.not_eq_false', decide_eq_false_iff_not, Bool.and_eq_true, Bool.or_eq_true, decide_eq_true_eq, beq_iff_eq]
  unfold ramB romB devB at *
  simp only [Bool.and_eq_true, decide_eq_true_eq] at *
  omega
end Go.Proofs.YtcilnbkmaoneaaaDoor
