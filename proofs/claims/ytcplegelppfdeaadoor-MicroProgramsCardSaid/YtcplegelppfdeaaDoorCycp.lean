/-
  How many cycles a byte takes at least, by the program: Cycles.
-/
import Derived.Test.YtcplegelppfdeaaDoorPace
import Derived.Laws.Rows
set_option linter.unusedSimpArgs false
set_option linter.unusedVariables false
namespace Go.Proofs.YtcplegelppfdeaaDoor
open Go.RowKit Go.PlainAid

def cycV (b : Nat) : Int := if isOp b then cycP (nm b) (md b) (kindP (nm b) (md b)) else 0
/-- The program's table of cycles lies in its variable. -/
def LaidPc (w : World) : Prop := ∃ t fr, w.heap[1]? = some (.cells paceA t fr)
theorem LaidPc.below {w u : World} (h : LaidPc w) (hb : Below w.heap.size w u) : LaidPc u := by
  obtain ⟨t, fr, h⟩ := h
  exact ⟨t, fr, (hb.block 1 (Array.getElem?_eq_some_iff.1 h).1).trans h⟩
theorem find_some {f : Nat → Bool} {k : Nat} (hk : k < 34) (h : f k = true) (hn : ∀ n, n < k → f n = false) : (List.range 34).find? f = some k := by
  rw [List.find?_range_eq_some]
  exact ⟨h, List.mem_range.2 hk, fun n hlt => by rw [hn n hlt]; rfl⟩
theorem find_none {f : Nat → Bool} (hn : ∀ n, n < 34 → f n = false) : (List.range 34).find? f = none := by
  rw [List.find?_range_eq_none]
  intro n hlt
  rw [hn n hlt]; rfl
set_option maxRecDepth 100000 in
set_option maxHeartbeats 1000000 in
theorem cycp_no (b : Nat) (hb : b < 256) (ho : isOp b = false) (w : World) : Calls Tryd.prog 18 #[.int .u8 b] w fun e w' => e = .returned (.int .i64 (cycV b)) ∧ Below w.heap.size w w' := by
  have HO := Lib.hid (fun w => oof_c b hb w)
  have hv : ofV b = .tuple #[.agg #[.string ⟨#[]⟩, .int .i64 0, .int .i64 0], .int .i64 13] := by unfold ofV opC errOf; rw [ho]; rfl
  rw [hv] at HO
  have hc : cycV b = 0 := by unfold cycV; rw [ho]; rfl
  rw [hc]
  go_enter Tryd.func18, Tryd.ntmps18
  go_wp2_with fail
  ((with_reducible refine (HO.out _).mono ?_); rintro _ u ⟨rfl, hb⟩)
  have hz := hb.size
  (try simp only [World.size_alloc, World.size_setCell, World.size_drew] at hz)
  have hB' : Below w.heap.size w u := by
      refine kb ?_ hb
      go_grown
  clear hb hz
  have hB := hB'; clear hB'
  have hsz := hB.size
  go_wp2
  go_ret
  exact ⟨rfl, by go_grown⟩
set_option maxRecDepth 100000 in
set_option maxHeartbeats 1000000 in
theorem cycp_c (b : Nat) (hb : b < 256) (w : World) (hl : LaidPc w) : Calls Tryd.prog 18 #[.int .u8 b] w fun e w' => e = .returned (.int .i64 (cycV b)) ∧ Below w.heap.size w w' := by
  cases ho : isOp b
  · exact cycp_no b hb ho w
  have HO := Lib.hid (fun w => oof_c b hb w)
  have hv : ofV b = .tuple #[.agg #[.string ⟨(nm b).toArray⟩, .int .i64 (md b), .int .i64 (kindP (nm b) (md b))], .int .i64 0] := by unfold ofV opC errOf; rw [ho]; rfl
  rw [hv] at HO
  have hc : cycV b = cycP (nm b) (md b) (kindP (nm b) (md b)) := by unfold cycV; rw [ho]; rfl
  rw [hc]
  have HC := Lib.hid (show cycP (nm b) (md b) (kindP (nm b) (md b)) = match (List.range 34).find? fun n => t1 (nm b) (md b) (kindP (nm b) (md b)) n || t2 (md b) (kindP (nm b) (md b)) n with
    | some n => (pN n).2.2.2
    | none => 0 from rfl)
  have HX := Lib.hid (fun n hn w => run_pace_index n hn w)
  have HT1 := Lib.hid (show ∀ n w, (binOp .eql 37 (.agg #[.string ⟨(pN n).1.toArray⟩, .int .i64 (pN n).2.1, .int .i64 (pN n).2.2.1]) (.agg #[.string ⟨(nm b).toArray⟩, .int .i64 (md b), .int .i64 (kindP (nm b) (md b))])).run Tryd.prog w = .ok (.bool (t1 (nm b) (md b) (kindP (nm b) (md b)) n)) w from
    fun n w => by rw [run_op_eql, toList_mk, toList_mk]; rfl)
  have HT2 := Lib.hid (show ∀ n w, (binOp .eql 37 (.agg #[.string ⟨(pN n).1.toArray⟩, .int .i64 (pN n).2.1, .int .i64 (pN n).2.2.1]) (.agg #[.string ⟨#[]⟩, .int .i64 (md b), .int .i64 (kindP (nm b) (md b))])).run Tryd.prog w = .ok (.bool (t2 (md b) (kindP (nm b) (md b)) n)) w from
    fun n w => by rw [run_op_eql, toList_mk, show (ByteArray.mk #[]).toList = [] from by rw [ByteArray.toList_eq]]; rfl)
  generalize kindP (nm b) (md b) = K at *
  generalize cycP (nm b) (md b) K = V at *
  generalize t1 (nm b) (md b) K = T1 at *
  generalize t2 (md b) K = T2 at *
  generalize ByteArray.mk (nm b).toArray = S at *
  generalize md b = M at *
  have hz := paceA_size
  have hl' : ∃ t fr, w.heap[1]? = some (.cells paceA t fr) := hl
  generalize paceA = A at *
  obtain ⟨t, fr, hg⟩ := hl'
  clear hl
  go_enter Tryd.func18, Tryd.ntmps18
  go_wp2_with fail
  ((with_reducible refine (HO.out _).mono ?_); rintro _ u ⟨rfl, hb⟩)
  have hz := hb.size
  (try simp only [World.size_alloc, World.size_setCell, World.size_drew] at hz)
  have hB' : Below w.heap.size w u := by
      refine kb ?_ hb
      go_grown
  clear hb hz
  have hB := hB'; clear hB'
  have hsz := hB.size
  go_upto_region 5 with fail
  refine wp_pin (fun w' => w'.cell? ⟨u.heap.size, 0, none⟩ = some (.string S) ∧ w'.cell? ⟨u.heap.size, 1, none⟩ = some (.int .i64 M) ∧ w'.cell? ⟨u.heap.size, 2, none⟩ = some (.int .i64 K) ∧ w'.cell? ⟨u.heap.size + 1, 0, none⟩ = some (.string ⟨#[]⟩) ∧ w'.cell? ⟨u.heap.size + 1, 1, none⟩ = some (.int .i64 M) ∧ w'.cell? ⟨u.heap.size + 1, 2, none⟩ = some (.int .i64 K) ∧ Below w.heap.size w w') ?_ ?_
  · (try dsimp only)
    refine ⟨?_, ?_, ?_, ?_, ?_, ?_, ?_⟩ <;> first | (go_simp; done) | (simp [*]; done) | go_grown
  intro u2 T
  (try dsimp only at T)
  clear hB hsz
  obtain ⟨hx_0, hx_1, hx_2, hy_0, hy_1, hy_2, hB⟩ := T
  have hsz := hB.size
  have hlx := klt hx_0
  have hly := klt hy_0
  obtain ⟨hnx0, hnx1, hkx1, hnx2, hkx2⟩ := ap0 hlx
  obtain ⟨hny0, hky1⟩ := ap1 hly
  have hg2 : u2.heap[1]? = some (.cells A t fr) := (hB.block 1 (Array.getElem?_eq_some_iff.1 hg).1).trans hg
  go_wp2_with (refine wpList_load_row rfl 59 _ rfl 1 rfl t A fr _ hg2 under_paces rfl (by rw [hz]; exact info_paces) ?_)
  go_loopw [21] (fun i wr => ∃ k : Nat, k ≤ 34 ∧ i = .int .i64 k ∧ Hid (∀ n, n < k → (T1 n || T2 n) = false) ∧ wr.cell? ⟨u.heap.size, 0, none⟩ = some (.string S) ∧ wr.cell? ⟨u.heap.size, 1, none⟩ = some (.int .i64 M) ∧ wr.cell? ⟨u.heap.size, 2, none⟩ = some (.int .i64 K) ∧ wr.cell? ⟨u.heap.size + 1, 0, none⟩ = some (.string ⟨#[]⟩) ∧ wr.cell? ⟨u.heap.size + 1, 1, none⟩ = some (.int .i64 M) ∧ wr.cell? ⟨u.heap.size + 1, 2, none⟩ = some (.int .i64 K) ∧ Below w.heap.size w wr) (fun i _ => 34 - (intOf i).toNat)
  case atStart => exact ⟨0, by omega, rfl, Lib.hid (fun n h => by omega), hx_0, hx_1, hx_2, hy_0, hy_1, hy_2, hB⟩
  case round =>
    obtain ⟨k, hk, rfl, HN, hrel⟩ := hrel
    clear hx_0 hx_1 hx_2 hy_0 hy_1 hy_2 hB hsz hlx hly hnx0 hnx1 hkx1 hnx2 hkx2 hny0 hky1
    obtain ⟨hx_0, hx_1, hx_2, hy_0, hy_1, hy_2, hB⟩ := hrel
    have hsz := hB.size
    have hlx := klt hx_0
    have hly := klt hy_0
    obtain ⟨hnx0, hnx1, hkx1, hnx2, hkx2⟩ := ap0 hlx
    obtain ⟨hny0, hky1⟩ := ap1 hly
    by_cases hlt : k < 34
    · have hd34 : decide ((k : Int) < 34) = true := decide_eq_true (by omega)
      have HF := Lib.hid (fun (h : (T1 k || T2 k) = true) => show V = (pN k).2.2.2 from by rw [HC.out, find_some hlt h HN.out])
      have HS := Lib.hid (fun (h : (T1 k || T2 k) = false) (n : Nat) (hn : n < k + 1) => show (T1 n || T2 n) = false from by
        by_cases e : n = k
        · rw [e]; exact h
        · exact HN.out n (by omega))
      have q := fun W => HX.out k hlt W
      unfold paceC at q
      have q1 := fun W => HT1.out k W
      have q2 := fun W => HT2.out k W
      clear HX HT1 HT2 HC
      generalize ByteArray.mk (pN k).1.toArray = s0 at *
      generalize (pN k).2.1 = m0 at *
      generalize (pN k).2.2.1 = k0 at *
      generalize (pN k).2.2.2 = c0 at *
      cases e1 : T1 k
      · cases e2 : T2 k
        · rw [e1] at q1
          rw [e2] at q2
          rw [e1, e2] at HF HS
          go_wp2
          go_roundw
          case rel => refine ⟨k + 1, by omega, by go_num, Lib.hid (fun n hn => HS.out rfl n hn), ?_, ?_, ?_, ?_, ?_, ?_, by go_grown⟩ <;> (go_simp; done)
          case measure => simp [intOf]; omega
        · rw [e1] at q1
          rw [e2] at q2
          rw [e1, e2] at HF HS
          go_wp2
          go_ret
          exact ⟨ret_i64T (HF.out rfl).symm, by go_grown⟩
      · rw [e1] at q1
        rw [e1] at HF HS
        go_wp2
        go_ret
        exact ⟨ret_i64T (HF.out (Bool.true_or _)).symm, by go_grown⟩
    · have hk8 : k = 34 := by omega
      subst hk8
      have HH := Lib.hid (show V = 0 from by rw [HC.out, find_none (fun n h => HN.out n h)])
      clear HX HT1 HT2 HC
      go_wp2
      go_ret
      exact ⟨ret_i64T HH.out.symm, by go_grown⟩
end Go.Proofs.YtcplegelppfdeaaDoor
