/-
  The document's bus as a thing that lies in memory; a bus as the program has it, as the laws see it.
  The program: which kind two addresses both have, off its table of areas; whether they are of one kind.
  Layer 8: the zero value of an array of 65536 bytes.
  Arrays compared: element by element.
-/
import Derived.Test.YtcnejgilmciljaaGreatDoorDbusw13
import Derived.Test.YtcnejgilmciljaaGreatDoorCorr8
import Derived.Test.YtcnejgilmciljaaGreatDoorKind8
import Derived.Laws.Rows
import Derived.Test.YtcnejgilmciljaaGreatDoorEnts
import Derived.Laws.StructEq
set_option linter.unusedSimpArgs false
set_option linter.unusedVariables false
namespace Go.Proofs.YtcnejgilmciljaaGreatDoor
open Go.RowKit Go.PlainAid

def DB (rb : Nat) (B : Bd) : Thing := fun F G w => ∃ m x y a b c d, Dbus rb B m x y a b c d w ∧ F = foot rb (rB B.L m B.S a b c d) ∧ G = hang F (some_ B.S.pub) (some_ B.S.sec) x y
theorem DB.frm (rb : Nat) (B : Bd) : Frm (DB rb B) := by
  refine ⟨?_, ?_, ?_⟩
  · rintro F G H w u ⟨m, x, y, a, b, c, d, h, rfl, rfl⟩ hf hn
    exact ⟨m, x, y, a, b, c, d, h.fr hf (fun k hk => hn k hk), rfl, rfl⟩
  · rintro F G w ⟨m, x, y, a, b, c, d, h, rfl, rfl⟩ k hk
    exact .inl hk
  · rintro F G w ⟨m, x, y, a, b, c, d, h, rfl, rfl⟩ k hk
    exact h.lt k hk
/-- What a call leaves of such a thing. -/
def TEnd (T' : Thing) (F G : Nat → Prop) (V : Value) (w : World) : Ending → World → Prop := fun e w' => e = .returned V ∧ ∃ F' G', T' F' G' w' ∧ Mv F G F' G' w w'
theorem dread_t (rb : Nat) (B : Bd) (hB : B.May) (F G : Nat → Prop) (a : Int) (w : World) (h : DB rb B F G w) :
    Calls Tryz.prog 14 #[.pointer (some ⟨rb, 0, none⟩), .int .i64 a] w (TEnd (DB rb (rdD B a)) F G (rdBV (rdB (atP B.L) B.T B.S B.W a)) w) := by
  obtain ⟨m, x, y, a1, b, c, d, h, rfl, rfl⟩ := h
  refine (dread_c rb B hB m x y a1 b c d a w h).mono ?_
  rintro e u ⟨rfl, hf, x', y', h', hr, hx, hy⟩
  refine ⟨rfl, _, _, ⟨m, x', y', a1, b, c, d, h', rfl, rfl⟩, hf.mono (fun k _ e => .inl e), fun k hk => .inl (by rw [hr] at hk; exact hk), fun k hk => .inl ?_⟩
  rcases hk with hk | ⟨hl, hk⟩ | ⟨hl, hk⟩
  · rw [hr] at hk; exact .inl hk
  · obtain ⟨h3, h4⟩ := hx (some_iff.1 hl)
    exact .inr (.inl ⟨some_iff.2 h3, by rw [← h4]; exact hk⟩)
  · obtain ⟨h3, h4⟩ := hy (some_iff.1 hl)
    exact .inr (.inr ⟨some_iff.2 h3, by rw [← h4]; exact hk⟩)
theorem dwrite_t (rb : Nat) (B : Bd) (hB : B.May) (F G : Nat → Prop) (a v t : Int) (hv : 0 ≤ v ∧ v ≤ 255) (ht : 0 ≤ t ∧ t ≤ 255) (w : World) (h : DB rb B F G w) :
    Calls Tryz.prog 12 #[.pointer (some ⟨rb, 0, none⟩), .int .i64 a, .agg #[.int .u8 v, .int .u8 t]] w (TEnd (DB rb (wrD B a v t)) F G (wrBV (wrB B.S a t)) w) := by
  obtain ⟨m, x, y, a1, b, c, d, h, rfl, rfl⟩ := h
  refine (dwrite_c rb B hB m x y a1 b c d a v t hv ht w h).mono ?_
  rintro e u ⟨rfl, m', a', b', c', d', h', hf, hft, hp, hs⟩
  refine ⟨rfl, _, _, ⟨m', x, y, a', b', c', d', h', rfl, rfl⟩, hf, hft, fun k hk => ?_⟩
  rcases hk with hk | ⟨hl, hk⟩ | ⟨hl, hk⟩
  · exact (hft k hk).imp .inl id
  · exact .inl (.inr (.inl ⟨by rw [← hp]; exact hl, hk⟩))
  · exact .inl (.inr (.inr ⟨by rw [← hs]; exact hl, hk⟩))
/-- A bus as the laws see it: its bytes, the timer, ports, the wheel, the cycles. -/
structure Bs where
  M : Int → Int × Int
  T : Tm
  S : Po
  W : Wh
  n : Int
structure Bs.May (B : Bs) : Prop where
  t : B.T.May
  s : Fit B.S
  w : B.W.May
  n : 0 ≤ B.n ∧ B.n ≤ 4611686018427387904
def memV (M : Int → Int × Int) (a : Int) : Int × Int := if realB a = true then M a else (255, 0)
def rdQ (B : Bs) (a : Int) : Bs := if a < 0 ∨ 65535 < a then B else ⟨B.M, tickT B.T, rdPs B.S a, B.W, B.n + 1⟩
def wrM (M : Int → Int × Int) (a v t : Int) : Int → Int × Int := if ramB a = true then setM M a (v, t) else M
def wrQ (B : Bs) (a v t : Int) : Bs := if (wrB B.S a t).2 ≠ 0 then B else ⟨wrM B.M a v t, tickT (wrT B.T a v), wrPs B.S a v t B.n, wrWh B.W a v, B.n + 1⟩
def Bd.q (B : Bd) (M : Int → Int × Int) : Bs := ⟨M, B.T, B.S, B.W, B.n⟩
theorem memV_at {M : Int → Int × Int} {L : List Pt} (h : Corr M L) (a : Int) : memV M a = atP L a := by
  unfold memV atP
  by_cases hr : realB a = true
  · rw [if_pos hr, if_neg (by unfold realB at hr; rintro ⟨h1, h2⟩; rw [h1, h2] at hr; cases hr), h a hr]
  · rw [if_neg hr, if_pos (by unfold realB at hr; simpa using hr)]
theorem rdB_q {M : Int → Int × Int} {B : Bd} (h : Corr M B.L) (a : Int) : rdB (memV M) B.T B.S B.W a = rdB (atP B.L) B.T B.S B.W a := by
  have : memV M = atP B.L := funext (memV_at h)
  rw [this]
theorem rdQ_q (B : Bd) (M : Int → Int × Int) (a : Int) : rdQ (B.q M) a = (rdD B a).q M := by
  unfold rdQ rdD
  by_cases h : a < 0 ∨ 65535 < a
  · rw [if_pos h, if_pos h]
  · rw [if_neg h, if_neg h]; rfl
theorem rdD_L (B : Bd) (a : Int) : (rdD B a).L = B.L := by unfold rdD; split <;> rfl
theorem ram_in {a : Int} (h : ramB a = true) : (0 ≤ a ∧ a < 32768) ∧ devB a = false := by
  unfold ramB at h
  unfold devB
  simp at h ⊢
  omega
theorem wrM_corr {M : Int → Int × Int} {L : List Pt} (h : Corr M L) (a v t : Int) : Corr (wrM M a v t) (writeP L ⟨a, v, t⟩).2 := by
  unfold wrM writeP
  dsimp only
  by_cases hr : ramB a = true
  · obtain ⟨h1, h2⟩ := ram_in hr
    rw [if_pos hr, if_neg (by omega), if_neg (by rw [h2]; simp), if_pos hr]
    exact h.snoc ⟨a, v, t⟩
  · rw [if_neg hr, if_neg hr]
    split
    · exact h
    · split <;> exact h
theorem wrQ_q {B : Bd} {M : Int → Int × Int} (a v t : Int) (h : Corr M B.L) : ∃ M', wrQ (B.q M) a v t = (wrD B a v t).q M' ∧ Corr M' (wrD B a v t).L := by
  unfold wrQ wrD Bd.q
  dsimp only
  by_cases hz : (wrB B.S a t).2 ≠ 0
  · rw [if_pos hz, if_pos hz]
    exact ⟨M, rfl, h⟩
  · rw [if_neg hz, if_neg hz]
    exact ⟨_, rfl, wrM_corr h a v t⟩
theorem readS_fit {S : Po} (h : Fit S) (reg : Int) : Fit (readS S reg) := by
  obtain ⟨h1, h2, h3, h4, h5, h6⟩ := h
  unfold readS
  split
  · exact ⟨by dsimp only; rw [List.length_tail]; omega, h2, h3, h4, h5, h6⟩
  · split
    · exact ⟨h1, by dsimp only; rw [List.length_tail]; omega, h3, h4, h5, h6⟩
    · exact ⟨h1, h2, h3, h4, h5, h6⟩
theorem wrPo_fit {S : Po} (h : Fit S) (reg v t cy : Int) : Fit (wrPo S reg v t cy) := by
  obtain ⟨h1, h2, h3, h4, h5, h6⟩ := h
  unfold wrPo
  split
  · exact ⟨h1, h2, h3, h4, h5, h6⟩
  · rename_i hE
    have hE' : (writeE S reg t).2 = 0 := by simpa using hE
    unfold writeE at hE'
    split at hE'
    · cases hE'
    · split at hE'
      · cases hE'
      · split at hE'
        · cases hE'
        · rename_i n1 n2 n3
          split
          · exact ⟨h1, h2, by dsimp only; rw [List.length_append, List.length_singleton]; omega, h4, h5, h6⟩
          · split
            · exact ⟨h1, h2, h3, by dsimp only; rw [List.length_append, List.length_singleton]; omega, h5, h6⟩
            · split
              · exact ⟨h1, h2, h3, h4, by dsimp only; rw [List.length_append, List.length_singleton]; omega, by dsimp only; rw [List.length_append, List.length_append, h6]; rfl⟩
              · exact ⟨h1, h2, h3, h4, h5, h6⟩
theorem rdPs_fit {S : Po} (h : Fit S) (a : Int) : Fit (rdPs S a) := by
  unfold rdPs
  split
  · exact readS_fit h _
  · exact h
theorem wrPs_fit {S : Po} (h : Fit S) (a v t n : Int) : Fit (wrPs S a v t n) := by
  unfold wrPs
  split
  · exact wrPo_fit h _ _ _ _
  · exact h
theorem wrT_may {T : Tm} (h : T.May) (a v : Int) (hv : 0 ≤ v ∧ v ≤ 255) : (wrT T a v).May := by
  unfold wrT
  split
  · exact writeT_may T _ v h hv
  · exact h
theorem wrWh_may {W : Wh} (h : W.May) (a v : Int) (hv : 0 ≤ v ∧ v ≤ 255) : (wrWh W a v).May := by
  unfold wrWh
  split
  · exact rollW_may h hv
  · exact h
/-- So many calls can still be made: of a bus, and of the document's. -/
structure Room (k : Nat) (B : Bs) : Prop where
  t : B.T.May
  s : Fit B.S
  w : B.W.May
  n : 0 ≤ B.n ∧ B.n + k ≤ 1000000
theorem Room.may {k : Nat} {B : Bs} (h : Room k B) : B.May := ⟨h.t, h.s, h.w, by have := h.n; omega⟩
theorem Room.less {k j : Nat} {B : Bs} (h : Room k B) (hj : j ≤ k) : Room j B := ⟨h.t, h.s, h.w, by have := h.n; omega⟩
theorem Room.read {k : Nat} {B : Bs} (h : Room (k + 1) B) (a : Int) : Room k (rdQ B a) := by
  unfold rdQ
  split
  · exact h.less (Nat.le_succ _)
  · exact ⟨tickT_may _ h.t, rdPs_fit h.s a, h.w, by have := h.n; dsimp only; omega⟩
theorem Room.write {k : Nat} {B : Bs} (h : Room (k + 1) B) (a v t : Int) (hv : 0 ≤ v ∧ v ≤ 255) : Room k (wrQ B a v t) := by
  unfold wrQ
  split
  · exact h.less (Nat.le_succ _)
  · exact ⟨tickT_may _ (wrT_may h.t a v hv), wrPs_fit h.s a v t _, wrWh_may h.w a v hv, by have := h.n; dsimp only; omega⟩
theorem wrD_len (B : Bd) (a v t : Int) : (wrD B a v t).L.length ≤ B.L.length + 1 := by
  unfold wrD
  split
  · omega
  · unfold writeP
    dsimp only
    split
    · dsimp only; omega
    · split
      · dsimp only; omega
      · split
        · simp
        · dsimp only; omega
theorem bd_may {k : Nat} {B : Bd} {M : Int → Int × Int} (h : Room k (B.q M)) (hl : B.L.length ≤ 100000) : B.May :=
  ⟨hl, h.t, by have h1 : B.S.cyc.length = B.S.told.length := h.s.cyc; have h2 : B.S.told.length ≤ 4096 := h.s.told; omega, h.w, h.may.n⟩
end Go.Proofs.YtcnejgilmciljaaGreatDoor
set_option linter.unusedSimpArgs false
set_option linter.unusedVariables false
namespace Go.Proofs.YtcnejgilmciljaaGreatDoor
open Go.RowKit Go.PlainAid

/-- The areas: kind, first and last address. -/
structure Aq where
  k : Int
  lo : Int
  hi : Int
def areaL : List Aq := [⟨1, 0, 32767⟩, ⟨2, 32768, 32783⟩, ⟨3, 32784, 49151⟩, ⟨4, 49152, 65535⟩]
def areaA : Array Value := #[.int .i64 1, .int .i64 0, .int .i64 32767, .int .i64 2, .int .i64 32768, .int .i64 32783, .int .i64 3, .int .i64 32784, .int .i64 49151, .int .i64 4, .int .i64 49152, .int .i64 65535]
/-- The program's table lies in its variable. -/
def Laid (w : World) : Prop := ∃ t fr, w.heap[0]? = some (.cells areaA t fr)
theorem Laid.lt {w : World} (h : Laid w) : 0 < w.heap.size := by
  obtain ⟨t, fr, h⟩ := h
  exact (Array.getElem?_eq_some_iff.1 h).1
theorem Laid.keep {w u : World} (h : Laid w) (e : u.heap[0]? = w.heap[0]?) : Laid u := by
  obtain ⟨t, fr, h⟩ := h
  exact ⟨t, fr, e.trans h⟩
theorem Laid.below {w u : World} (h : Laid w) (hb : Below w.heap.size w u) : Laid u := h.keep (hb.block 0 h.lt)
def insB (x : Aq) (f t : Int) : Bool := (decide (x.lo ≤ f) && decide (f ≤ x.hi)) && (decide (x.lo ≤ t) && decide (t ≤ x.hi))
def kindL (f t : Int) : List Aq → Int
  | [] => 0
  | x :: r => if insB x f t = true then x.k else kindL f t r
def kindI (f t : Int) : Int := kindL f t areaL
theorem laid_cell {w : World} (h : Laid w) (i : Nat) : w.cell? ⟨0, i, none⟩ = areaA[i]? := by
  obtain ⟨t, fr, h⟩ := h
  exact cell_of_row w 0 i areaA t fr h
set_option maxRecDepth 100000 in
theorem index_areas (k : Nat) (x : Aq) (hx : areaL[k]? = some x) (w : World) : (Instr.index 152 (.agg areaA) (.int .i64 (k : Int))).run Tryz.prog w = .ok (.agg #[.int .i64 x.k, .int .i64 x.lo, .int .i64 x.hi]) w := by
  match k, hx with
  | 0, hx => obtain rfl := Option.some.inj hx; exact (by kernel_rfl : _ = _)
  | 1, hx => obtain rfl := Option.some.inj hx; exact (by kernel_rfl : _ = _)
  | 2, hx => obtain rfl := Option.some.inj hx; exact (by kernel_rfl : _ = _)
  | 3, hx => obtain rfl := Option.some.inj hx; exact (by kernel_rfl : _ = _)
  | n + 4, hx => exact absurd hx (by simp [areaL])
theorem index_two (a b : Int) (w : World) : (Instr.index 153 (.agg #[.int .i64 a, .int .i64 b]) (.int .i64 0)).run Tryz.prog w = .ok (.int .i64 a) w ∧ (Instr.index 153 (.agg #[.int .i64 a, .int .i64 b]) (.int .i64 1)).run Tryz.prog w = .ok (.int .i64 b) w := by
  constructor <;> kernel_rfl
set_option maxRecDepth 100000 in
set_option maxHeartbeats 2000000 in
theorem kindp_c (f t : Int) (w : World) (hL : Laid w) : Calls Tryz.prog 64 #[.int .i64 f, .int .i64 t] w fun e w' => e = .returned (.int .i64 (kindI f t)) ∧ Below w.heap.size w w' := by
  obtain ⟨R, hR⟩ : ∃ R, kindI f t = R := ⟨_, rfl⟩
  rw [hR]
  have HR := Lib.hid hR
  clear hR
  have HIX := Lib.hid (fun k x hx W => index_areas k x hx W)
  unfold areaA at HIX
  have c0 := laid_cell hL 0
  have c1 := laid_cell hL 1
  have c2 := laid_cell hL 2
  have c3 := laid_cell hL 3
  have c4 := laid_cell hL 4
  have c5 := laid_cell hL 5
  have c6 := laid_cell hL 6
  have c7 := laid_cell hL 7
  have c8 := laid_cell hL 8
  have c9 := laid_cell hL 9
  have c10 := laid_cell hL 10
  have c11 := laid_cell hL 11
  simp only [areaA, List.size_toArray, List.length_cons, List.length_nil, List.getElem?_toArray, List.getElem?_cons_zero, List.getElem?_cons_succ] at c0 c1 c2 c3 c4 c5 c6 c7 c8 c9 c10 c11
  have hi0 := fun W => (index_two f t W).1
  have hi1 := fun W => (index_two f t W).2
  go_enter Tryz.func64, Tryz.ntmps64
  go_wp2_with fail
  refine wp_scope_hid 0 fun C hC => ?_
  go_wp2_with fail
  apply wp_label
  go_wp2_with fail
  go_loopw [10] (fun i wr => ∃ k : Nat, k ≤ 4 ∧ i = .int .i64 k ∧ Hid (kindL f t (areaL.drop k) = R) ∧ Below w.heap.size w wr) (fun i _ => 4 - (intOf i).toNat)
  case atStart => exact ⟨0, by omega, rfl, HR, by go_grown⟩
  case round =>
    obtain ⟨k, hk, rfl, HK, hB⟩ := hrel
    by_cases hlt : k < 4
    · have hd : decide ((k : Int) < 4) = true := decide_eq_true (by omega)
      have hlk : k < areaL.length := hlt
      obtain ⟨x, hx⟩ : ∃ x, areaL[k]? = some x := ⟨_, List.getElem?_eq_getElem hlk⟩
      have hst := HK.out
      rw [List.drop_eq_getElem_cons hlk, kindL] at hst
      rw [List.getElem?_eq_getElem hlk] at hx
      rw [Option.some.inj hx] at hst
      have hix := HIX.out k x (by rw [List.getElem?_eq_getElem hlk]; exact hx)
      obtain ⟨xk, xlo, xhi⟩ := x
      dsimp only at hix hst
      have hw1 : IntKind.i64.wrap ((k : Int) + 1) = (k : Int) + 1 := IntWalk.i64_in _ (by omega)
      have hsz := hB.size
      have HST := Lib.hid hst
      clear hst hx HK
      have HIN := Lib.hid (show insB ⟨xk, xlo, xhi⟩ f t = true → xk = R from fun h => by have := HST.out; rwa [if_pos h] at this)
      have HOUT := Lib.hid (show insB ⟨xk, xlo, xhi⟩ f t = false → kindL f t (areaL.drop (k + 1)) = R from fun h => by have := HST.out; rwa [if_neg (by rw [h]; simp)] at this)
      have HE := Lib.hid (show insB ⟨xk, xlo, xhi⟩ f t = ((decide (xlo ≤ f) && decide (f ≤ xhi)) && (decide (xlo ≤ t) && decide (t ≤ xhi))) from rfl)
      generalize insB ⟨xk, xlo, xhi⟩ f t = I at HIN HOUT HE
      clear HST
      by_cases d1 : f < xlo
      · go_wp2_with fail
        refine wp_loop_rounds 3 ?_
        rw [rounds_succ]
        have HF := Lib.hid (HOUT.out (by rw [HE.out]; simp; omega))
        go_wp2
        go_roundw
        case rel => exact ⟨k + 1, by omega, by go_num, HF, by go_grown⟩
        case measure => simp [intOf] <;> omega
      · by_cases d2 : xhi < f
        · go_wp2_with fail
          refine wp_loop_rounds 3 ?_
          rw [rounds_succ]
          have HF := Lib.hid (HOUT.out (by rw [HE.out]; simp; omega))
          go_wp2
          go_roundw
          case rel => exact ⟨k + 1, by omega, by go_num, HF, by go_grown⟩
          case measure => simp [intOf] <;> omega
        · by_cases d3 : t < xlo
          · go_wp2_with fail
            refine wp_loop_rounds 3 ?_
            rw [rounds_succ]
            go_wp2_with fail
            rw [rounds_succ]
            have HF := Lib.hid (HOUT.out (by rw [HE.out]; simp; omega))
            go_wp2
            go_roundw
            case rel => exact ⟨k + 1, by omega, by go_num, HF, by go_grown⟩
            case measure => simp [intOf] <;> omega
          · by_cases d4 : xhi < t
            · go_wp2_with fail
              refine wp_loop_rounds 3 ?_
              rw [rounds_succ]
              go_wp2_with fail
              rw [rounds_succ]
              have HF := Lib.hid (HOUT.out (by rw [HE.out]; simp; omega))
              go_wp2
              go_roundw
              case rel => exact ⟨k + 1, by omega, by go_num, HF, by go_grown⟩
              case measure => simp [intOf] <;> omega
            · have HF := Lib.hid (HIN.out (by rw [HE.out]; simp; omega))
              go_wp2_with fail
              refine wp_loop_rounds 3 ?_
              rw [rounds_succ]
              go_wp2_with fail
              rw [rounds_succ]
              go_wp2_with fail
              rw [rounds_succ]
              go_wp2
              rw [Into.ret]
              go_ret
              exact ⟨ret_i64 HF.out, by go_grown⟩
    · have HF := Lib.hid (show R = 0 from by
        have h := HK.out
        rw [show k = 4 by omega] at h
        exact h.symm)
      have hd : decide ((k : Int) < 4) = false := decide_eq_false (by omega)
      go_wp2
      rw [Into.ret]
      go_ret
      exact ⟨ret_i64 HF.out.symm, hB⟩
/-- Addresses of one kind, the first one not above the last. -/
def onlyB (f t : Int) : Bool := decide (f ≤ t) && (kindI f t == 1 || kindI f t == 4)
set_option maxRecDepth 100000 in
set_option maxHeartbeats 2000000 in
theorem onep_c (f t : Int) (w : World) (hL : Laid w) : Calls Tryz.prog 68 #[.int .i64 f, .int .i64 t] w fun e w' => e = .returned (.bool (onlyB f t)) ∧ Below w.heap.size w w' := by
  have HK := Lib.hid (fun W (hb : Below w.heap.size w W) => kindp_c f t W (hL.below hb))
  obtain ⟨R, hR⟩ : ∃ R, onlyB f t = R := ⟨_, rfl⟩
  rw [hR]
  have HR := Lib.hid hR
  clear hR
  unfold onlyB at HR
  generalize kindI f t = K at *
  go_enter Tryz.func68, Tryz.ntmps68
  go_wp2_with fail
  ((with_reducible refine (HK.out _ (by go_grown)).mono ?_); rintro _ u1 ⟨rfl, hb⟩)
  have hz := hb.size
  (try simp only [World.size_alloc, World.size_setCell, World.size_drew] at hz)
  have hB' : Below w.heap.size w u1 := by
      refine kb ?_ hb
      go_grown
  clear hb hz
  have hB := hB'; clear hB'
  have hsz := hB.size
  cases d1 : decide (f ≤ t)
  · have HF := Lib.hid (show R = false from by rw [← HR.out, d1]; rfl)
    go_wp2
    go_ret
    exact ⟨ret_bool HF.out.symm, hB⟩
  · cases d2 : (K == 1)
    · cases d3 : (K == 4)
      · have HF := Lib.hid (show R = false from by rw [← HR.out, d1, d2, d3]; rfl)
        go_wp2
        go_ret
        exact ⟨ret_bool HF.out.symm, hB⟩
      · have HF := Lib.hid (show R = true from by rw [← HR.out, d1, d2, d3]; rfl)
        go_wp2
        go_ret
        exact ⟨ret_bool HF.out.symm, hB⟩
    · have HF := Lib.hid (show R = true from by rw [← HR.out, d1, d2]; rfl)
      go_wp2
      go_ret
      exact ⟨ret_bool HF.out.symm, hB⟩
theorem insB_iff (x : Aq) (f t : Int) : insB x f t = true ↔ (x.lo ≤ f ∧ f ≤ x.hi) ∧ (x.lo ≤ t ∧ t ≤ x.hi) := by
  unfold insB
  simp only [Bool.and_eq_true, decide_eq_true_eq]
/-- What a kind tells. -/
theorem kindI_cases (f t : Int) : (kindI f t = 1 ∧ ramB f = true ∧ ramB t = true) ∨ (kindI f t = 2 ∧ devB f = true ∧ devB t = true) ∨ (kindI f t = 3 ∧ (32784 ≤ f ∧ f < 49152) ∧ (32784 ≤ t ∧ t < 49152)) ∨ (kindI f t = 4 ∧ romB f = true ∧ romB t = true) ∨
    (kindI f t = 0 ∧ ¬ (ramB f = true ∧ ramB t = true) ∧ ¬ (devB f = true ∧ devB t = true) ∧ ¬ ((32784 ≤ f ∧ f < 49152) ∧ (32784 ≤ t ∧ t < 49152)) ∧ ¬ (romB f = true ∧ romB t = true)) := by
  unfold ramB romB devB
  simp only [Bool.and_eq_true, decide_eq_true_eq]
  unfold kindI areaL
  simp only [kindL, insB_iff]
  split
  · left; omega
  · split
    · right; left; omega
    · split
      · right; right; left; omega
      · split
        · right; right; right; left; omega
        · right; right; right; right; omega
theorem onlyB_eq (f t : Int) : onlyB f t = !(decide (t < f) || !oneB f t) := by
  have h := kindI_cases f t
  unfold onlyB oneB
  rw [Bool.eq_iff_iff]
  simp only [Bool.not_eq_true', Bool.or_eq_false_iff, Bool.not_eq_false', decide_eq_false_iff_not, Bool.and_eq_true, Bool.or_eq_true, decide_eq_true_eq, beq_iff_eq]
  unfold ramB romB devB at *
  simp only [Bool.and_eq_true, decide_eq_true_eq] at *
  omega
end Go.Proofs.YtcnejgilmciljaaGreatDoor
set_option linter.unusedSimpArgs false
set_option linter.unusedVariables false
namespace Go.Proofs.YtcnejgilmciljaaGreatDoor
open Go.RowKit Go.PlainAid
set_option maxRecDepth 100000

theorem twice {α : Type} {a : List α} {z : α} {m : Nat} (h : a = List.replicate m z) : List.append a a = List.replicate (m + m) z := by
  subst h
  exact List.replicate_append_replicate
/-- The cells of 65536 bytes that are 0, not secret. -/
def zeroA : Array Value := (List.replicate 131072 (Value.int .u8 0)).toArray
theorem zeroA_size : zeroA.size = 131072 := by unfold zeroA; rw [List.size_toArray, List.length_replicate]
theorem zeroA_get (i : Nat) (h : i < 131072) : zeroA[i]? = some (.int .u8 0) := by
  unfold zeroA
  rw [List.getElem?_toArray, List.getElem?_replicate, if_pos h]
theorem zero_cells : Tryz.t128.zero = some (.agg zeroA) := by
  unfold Tryz.t128
  refine congrArg (fun l : List Value => some (Value.agg l.toArray)) ?_
  refine (twice (m := 65536) ?_)
  refine (twice (m := 32768) ?_)
  refine (twice (m := 16384) ?_)
  refine (twice (m := 8192) ?_)
  refine (twice (m := 4096) ?_)
  refine (twice (m := 2048) ?_)
  refine (twice (m := 1024) ?_)
  refine (twice (m := 512) ?_)
  refine (twice (m := 256) ?_)
  refine (twice (m := 128) ?_)
  first | (refine (twice (m := 64) ?_); rfl) | rfl
theorem zeroArr (w : World) : (zeroValue 128).run Tryz.prog w = .ok (.agg zeroA) w := by
  unfold zeroValue
  rw [Sem.run_bind, Tryz.typeInfo128]
  simp only [Result.andThen_ok, zero_cells, Sem.run_pure]
end Go.Proofs.YtcnejgilmciljaaGreatDoor
set_option linter.unusedSimpArgs false
set_option linter.unusedVariables false
namespace Go.Proofs.YtcnejgilmciljaaGreatDoor
open Go.RowKit Go.PlainAid

section
variable {P : Program}
theorem eq_rounds (w : World) (d n : Nat) (e : TypeId) (xs ys : Array Value) (q : Nat → Bool) : ∀ l : List Nat,
    (∀ i ∈ l, ((do
      let a ← part e xs (i * n)
      let b ← part e ys (i * n)
      Op.equalIn d e a b : Sem Bool)).run P w = .ok (q i) w) →
    ((do
      for i in l do
        if !(← Op.equalIn d e (← part e xs (i * n)) (← part e ys (i * n))) then return false
      pure true : Sem Bool)).run P w = .ok (l.all q) w
  | [], _ => by simp
  | i :: r, h => by
    have h0 := h i (List.mem_cons_self ..)
    have h1 := eq_rounds w d n e xs ys q r (fun j hj => h j (List.mem_cons_of_mem _ hj))
    simp only [List.forIn_cons, Sem.run_bind] at h0 h1 ⊢
    cases hp : (part e xs (i * n)).run P w with
    | halt x w1 => rw [hp] at h0; simp [Result.andThen] at h0
    | ok a w1 =>
      rw [hp] at h0
      simp only [Result.andThen_ok] at h0 ⊢
      cases hq : (part e ys (i * n)).run P w1 with
      | halt x w2 => rw [hq] at h0; simp [Result.andThen] at h0
      | ok b w2 =>
        rw [hq] at h0
        simp only [Result.andThen_ok] at h0 ⊢
        rw [h0]
        simp only [Result.andThen_ok, List.all_cons]
        cases hqi : q i
        · simp
        · simp only [Bool.not_true, Bool.false_eq_true, if_false, Sem.run_pure, Result.andThen_ok, Bool.true_and]
          exact h1
theorem run_equalIn_arr (w : World) (d : Nat) (t e : TypeId) (len n : Nat) (xs ys : Array Value) (q : Nat → Bool) (ht : P.underlying t = some (.array len e)) (hn : (sizeOf e).run P w = .ok n w)
    (h : ∀ i, i < len → ((do
      let a ← part e xs (i * n)
      let b ← part e ys (i * n)
      Op.equalIn d e a b : Sem Bool)).run P w = .ok (q i) w) : (Op.equalIn (d + 1) t (.agg xs) (.agg ys)).run P w = .ok ((List.range len).all q) w := by
  have h1 := eq_rounds w d n e xs ys q (List.range len) (fun i hi => h i (List.mem_range.1 hi))
  simp only [Op.equalIn, Sem.run_bind, run_underlying ht, Result.andThen_ok, hn, Std.Legacy.Range.forIn_eq_forIn_range', Std.Legacy.Range.size]
  rw [List.range_eq_range'] at h1 ⊢
  simp only [Sem.run_bind] at h1
  simp at h1 ⊢
  exact h1
theorem run_eql_arr (w : World) (t e : TypeId) (len n : Nat) (xs ys : Array Value) (q : Nat → Bool) (ht : P.underlying t = some (.array len e)) (hn : (sizeOf e).run P w = .ok n w)
    (h : ∀ i, i < len → ((do
      let a ← part e xs (i * n)
      let b ← part e ys (i * n)
      Op.equalIn 9999 e a b : Sem Bool)).run P w = .ok (q i) w) : (binOp .eql t (.agg xs) (.agg ys)).run P w = .ok (.bool ((List.range len).all q)) w := by
  rw [run_eql_struct, run_equalIn_arr w 9999 t e len n xs ys q ht hn h]
  rfl
end
/-- Two bytes compared. -/
theorem eq_byte (v t v' t' : Int) (w : World) : (Op.equalIn 9999 49 (.agg #[.int .u8 v, .int .u8 t]) (.agg #[.int .u8 v', .int .u8 t'])).run Tryz.prog w = .ok ((v == v') && (t == t')) w := by
  cases h1 : v == v' <;> cases h2 : t == t' <;> (go_simp <;> simp [h1, h2])
end Go.Proofs.YtcnejgilmciljaaGreatDoor
