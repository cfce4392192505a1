/-
  OpcodeTells returns true: the walk.
-/
import Derived.Test.YtnigcmicimdphaaDoorCycp
import Derived.Test.YtnigcmicimdphaaDoorAwake4
import Derived.Test.YtnigcmicimdphaaDoorKLets
set_option linter.unusedSimpArgs false
set_option linter.unusedVariables false
namespace Go.Proofs.YtnigcmicimdphaaDoor
open Go.RowKit Go.PlainAid

theorem run_op_same (a : ByteArray) (b c : Int) (w : World) : (binOp .eql 23 (.agg #[.string a, .int .i64 b, .int .i64 c]) (.agg #[.string a, .int .i64 b, .int .i64 c])).run Tryd.prog w = .ok (.bool true) w := by
  rw [run_op_eql]; simp
set_option maxRecDepth 100000 in
set_option maxHeartbeats 2000000 in
theorem tells_op (b : Nat) (hb : b < 256) (S : ByteArray) (M K V : Int) (r : Nat)
    (hO : ∀ w, Calls Tryd.prog 6 #[.int .u8 b] w fun e w' => e = .returned (.tuple #[.agg #[.string S, .int .i64 M, .int .i64 K], .int .i64 0]) ∧ Below w.heap.size w w')
    (hF : ∀ w, Calls Tryd.prog 7 #[.int .i64 b] w fun e w' => e = .returned (.tuple #[.int .i64 r, .int .i64 M]) ∧ Below w.heap.size w w')
    (hN : ∀ w, Calls Tryd.prog 10 #[.int .i64 r] w fun e w' => e = .returned (.string S) ∧ Below w.heap.size w w')
    (hK : ∀ w, Calls Tryd.prog 11 #[.string S, .int .i64 M] w fun e w' => e = .returned (.int .i64 K) ∧ Below w.heap.size w w')
    (hC : ∀ w, Laid w → Calls Tryd.prog 8 #[.int .u8 b] w fun e w' => e = .returned (.int .i64 V) ∧ Below w.heap.size w w')
    (hR : ∀ w, Calls Tryd.prog 12 #[.string S, .int .i64 M] w fun e w' => e = .returned (.int .i64 V) ∧ Below w.heap.size w w')
    (w : World) (hL : Laid w) : Calls Tryd.prog 3 #[.int .u8 b] w (LawEnd w) := by
  have HO := Lib.hid hO
  have HF := Lib.hid hF
  have HN := Lib.hid hN
  have HK := Lib.hid hK
  have HC := Lib.hid hC
  have HR := Lib.hid hR
  have HL := Lib.hid hL
  clear hO hF hN hK hC hR hL
  have q := run_op_same S M K
  have e2 : IntKind.i64.wrap (b : Int) = b := IntWalk.i64_in _ (by omega)
  have hr : decide ((r : Int) < 0) = false := decide_eq_false (by omega)
  go_enter Tryd.func3, Tryd.ntmps3
  go_wp2_with fail
  ((with_reducible refine (HO.out _).mono ?_); rintro _ w1 ⟨rfl, hb⟩)
  have hz := hb.size
  (try simp only [World.size_alloc, World.size_setCell, World.size_drew] at hz)
  have hB' : Below w.heap.size w w1 := by
      refine kb ?_ hb
      go_grown
  clear hb hz
  have hB := hB'; clear hB'
  have hsz := hB.size
  go_wp2_with fail
  ((with_reducible refine (HF.out _).mono ?_); rintro _ w2 ⟨rfl, hb⟩)
  have T : w2.cell? ⟨w1.heap.size, 0, none⟩ = some (.string S) ∧ w2.cell? ⟨w1.heap.size, 1, none⟩ = some (.int .i64 M) ∧ w2.cell? ⟨w1.heap.size, 2, none⟩ = some (.int .i64 K) := by
      refine ⟨?_, ?_, ?_⟩ <;> refine kc hb ?_ <;> (go_simp; first | done | rfl)
  have hz := hb.size
  (try simp only [World.size_alloc, World.size_setCell, World.size_drew] at hz)
  have hlx' : w1.heap.size < w2.heap.size := by omega
  have hB' : Below w.heap.size w w2 := by
      refine kb ?_ hb
      go_grown
  clear hB hsz
  clear hb hz
  obtain ⟨hx_0, hx_1, hx_2⟩ := T
  have hlx := hlx'; clear hlx'
  have hnx0 : ¬ (w1.heap.size = w2.heap.size) := by omega
  have hnx1 : ¬ (w1.heap.size = w2.heap.size + 1) := by omega
  have hkx1 : w1.heap.size < w2.heap.size + 1 := by omega
  have hnx2 : ¬ (w1.heap.size = w2.heap.size + 1 + 1) := by omega
  have hkx2 : w1.heap.size < w2.heap.size + 1 + 1 := by omega
  have hB := hB'; clear hB'
  have hsz := hB.size
  go_wp2_with fail
  ((with_reducible refine (HN.out _).mono ?_); rintro _ w3 ⟨rfl, hb⟩)
  have T : w3.cell? ⟨w1.heap.size, 0, none⟩ = some (.string S) ∧ w3.cell? ⟨w1.heap.size, 1, none⟩ = some (.int .i64 M) ∧ w3.cell? ⟨w1.heap.size, 2, none⟩ = some (.int .i64 K) := by
      refine ⟨?_, ?_, ?_⟩ <;> refine kc hb ?_ <;> (go_simp; first | done | rfl)
  have hz := hb.size
  (try simp only [World.size_alloc, World.size_setCell, World.size_drew] at hz)
  have hlx' : w1.heap.size < w3.heap.size := by omega
  have hB' : Below w.heap.size w w3 := by
      refine kb ?_ hb
      go_grown
  clear hx_0 hx_1 hx_2 hlx hnx0 hnx1 hkx1 hnx2 hkx2 hB hsz
  clear hb hz
  obtain ⟨hx_0, hx_1, hx_2⟩ := T
  have hlx := hlx'; clear hlx'
  have hnx0 : ¬ (w1.heap.size = w3.heap.size) := by omega
  have hnx1 : ¬ (w1.heap.size = w3.heap.size + 1) := by omega
  have hkx1 : w1.heap.size < w3.heap.size + 1 := by omega
  have hnx2 : ¬ (w1.heap.size = w3.heap.size + 1 + 1) := by omega
  have hkx2 : w1.heap.size < w3.heap.size + 1 + 1 := by omega
  have hB := hB'; clear hB'
  have hsz := hB.size
  go_wp2_with fail
  refine wp_region_plan (fun w' => w'.cell? ⟨w1.heap.size, 0, none⟩ = some (.string S) ∧ w'.cell? ⟨w1.heap.size, 1, none⟩ = some (.int .i64 M) ∧ w'.cell? ⟨w1.heap.size, 2, none⟩ = some (.int .i64 K) ∧ Below w.heap.size w w') (by kernel_rfl) (by kernel_rfl) (by kernel_rfl) ?_ ?_
  · (try dsimp only)
    refine ⟨?_, ?_, ?_, ?_⟩ <;> first | (go_simp; done) | (simp [*]; done) | go_grown
  repeat (first
    | (refine Plan.val (v := ?_) ?_ ?_ ?_; rotate_left; (· rfl); (· (intro W hSw; (try dsimp only at hSw); go_simp; all_goals (first | (with_reducible rfl) | (constructor <;> (with_reducible rfl))))); (try simp only [Act.put, List.setIfInBounds_toArray, List.set_cons_zero, List.set_cons_succ]))
    | (refine Plan.no ?_ ?_; (· rfl); (try simp only [Act.put, List.setIfInBounds_toArray, List.set_cons_zero, List.set_cons_succ]))
    | (refine Plan.call (v := ?_) (f := ?_) (args := ?_) ?_ ?_ ?_ ?_; rotate_left 3; (· rfl); (· (intro W hSw; (try dsimp only at hSw); go_simp; all_goals (first | (with_reducible rfl) | (constructor <;> (with_reducible rfl))))); (· (intro W hSw; (try dsimp only at hSw); first | (go_at_call 11; ((with_reducible refine (HK.out _).mono ?_); rintro _ wz ⟨rfl, hb⟩; (refine ⟨?_, ?_⟩; (· with_reducible rfl); exact ⟨kc hb hSw.1, kc hb hSw.2.1, kc hb hSw.2.2.1, kb hSw.2.2.2 hb⟩))) | (go_at_call 8; ((with_reducible refine (HC.out _ (HL.out.below hSw.2.2.2)).mono ?_); rintro _ wz ⟨rfl, hb⟩; (refine ⟨?_, ?_⟩; (· with_reducible rfl); exact ⟨kc hb hSw.1, kc hb hSw.2.1, kc hb hSw.2.2.1, kb hSw.2.2.2 hb⟩))) | (go_at_call 12; ((with_reducible refine (HR.out _).mono ?_); rintro _ wz ⟨rfl, hb⟩; (refine ⟨?_, ?_⟩; (· with_reducible rfl); exact ⟨kc hb hSw.1, kc hb hSw.2.1, kc hb hSw.2.2.1, kb hSw.2.2.2 hb⟩))) | (go_at_call 9; ((with_reducible refine (awake_c _).mono ?_); rintro _ wz ⟨rfl, hb⟩; (refine ⟨?_, ?_⟩; (· with_reducible rfl); exact ⟨kc hb hSw.1, kc hb hSw.2.1, kc hb hSw.2.2.1, kb hSw.2.2.2 hb⟩))))); (try simp only [Act.put, List.setIfInBounds_toArray, List.set_cons_zero, List.set_cons_succ])))
  refine Plan.done ?_
  intro wz T
  (try dsimp only at T)
  have hBe := T.2.2.2
  go_wp2
  go_ret
  exact ⟨rfl, hBe⟩
set_option maxRecDepth 100000 in
set_option maxHeartbeats 2000000 in
theorem tells_no (b : Nat) (hb : b < 256)
    (hO : ∀ w, Calls Tryd.prog 6 #[.int .u8 b] w fun e w' => e = .returned (.tuple #[.agg #[.string ⟨#[]⟩, .int .i64 0, .int .i64 0], .int .i64 13]) ∧ Below w.heap.size w w')
    (hF : ∀ w, Calls Tryd.prog 7 #[.int .i64 b] w fun e w' => e = .returned (.tuple #[.int .i64 (-1), .int .i64 (-1)]) ∧ Below w.heap.size w w')
    (hC : ∀ w, Calls Tryd.prog 8 #[.int .u8 b] w fun e w' => e = .returned (.int .i64 0) ∧ Below w.heap.size w w')
    (w : World) : Calls Tryd.prog 3 #[.int .u8 b] w (LawEnd w) := by
  have HO := Lib.hid hO
  have HF := Lib.hid hF
  have HC := Lib.hid hC
  clear hO hF hC
  have q := run_op_same ⟨#[]⟩ 0 0
  have e2 : IntKind.i64.wrap (b : Int) = b := IntWalk.i64_in _ (by omega)
  go_enter Tryd.func3, Tryd.ntmps3
  go_wp2_with fail
  ((with_reducible refine (HO.out _).mono ?_); rintro _ w1 ⟨rfl, hb⟩)
  have hz := hb.size
  (try simp only [World.size_alloc, World.size_setCell, World.size_drew] at hz)
  have hB' : Below w.heap.size w w1 := by
      refine kb ?_ hb
      go_grown
  clear hb hz
  have hB := hB'; clear hB'
  have hsz := hB.size
  go_wp2_with fail
  ((with_reducible refine (HF.out _).mono ?_); rintro _ w2 ⟨rfl, hb⟩)
  have T : w2.cell? ⟨w1.heap.size, 0, none⟩ = some (.string ⟨#[]⟩) ∧ w2.cell? ⟨w1.heap.size, 1, none⟩ = some (.int .i64 0) ∧ w2.cell? ⟨w1.heap.size, 2, none⟩ = some (.int .i64 0) := by
      refine ⟨?_, ?_, ?_⟩ <;> refine kc hb ?_ <;> (go_simp; first | done | rfl)
  have hz := hb.size
  (try simp only [World.size_alloc, World.size_setCell, World.size_drew] at hz)
  have hlx' : w1.heap.size < w2.heap.size := by omega
  have hB' : Below w.heap.size w w2 := by
      refine kb ?_ hb
      go_grown
  clear hB hsz
  clear hb hz
  obtain ⟨hx_0, hx_1, hx_2⟩ := T
  have hlx := hlx'; clear hlx'
  have hnx0 : ¬ (w1.heap.size = w2.heap.size) := by omega
  have hnx1 : ¬ (w1.heap.size = w2.heap.size + 1) := by omega
  have hkx1 : w1.heap.size < w2.heap.size + 1 := by omega
  have hnx2 : ¬ (w1.heap.size = w2.heap.size + 1 + 1) := by omega
  have hkx2 : w1.heap.size < w2.heap.size + 1 + 1 := by omega
  have hB := hB'; clear hB'
  have hsz := hB.size
  go_wp2_with fail
  ((with_reducible refine (HC.out _).mono ?_); rintro _ w3 ⟨rfl, hb⟩)
  have hz := hb.size
  (try simp only [World.size_alloc, World.size_setCell, World.size_drew] at hz)
  have hB' : Below w.heap.size w w3 := by
      refine kb ?_ hb
      go_grown
  clear hx_0 hx_1 hx_2 hlx hnx0 hnx1 hkx1 hnx2 hkx2 hB hsz
  clear hb hz
  have hB := hB'; clear hB'
  have hsz := hB.size
  go_wp2_with fail
  ((with_reducible refine (awake_c _).mono ?_); rintro _ w4 ⟨rfl, hb⟩)
  have hz := hb.size
  (try simp only [World.size_alloc, World.size_setCell, World.size_drew] at hz)
  have hB' : Below w.heap.size w w4 := by
      refine kb ?_ hb
      go_grown
  clear hB hsz
  clear hb hz
  have hB := hB'; clear hB'
  have hsz := hB.size
  go_wp2
  go_ret
  exact ⟨rfl, by go_grown⟩

theorem place_lt : ∀ b : Fin 256, (match placeL.getD b.val none with | some n => decide (n < 728) | none => true) = true := by decide +kernel
theorem kind_same : ∀ b : Fin 256, (!isOp b.val || kindL (nm b.val) (md b.val) == kindP (nm b.val) (md b.val)) = true := by decide +kernel
theorem cyc_same : ∀ b : Fin 256, (!isOp b.val || cycL (nm b.val) (md b.val) == cycP (nm b.val) (md b.val) (kindP (nm b.val) (md b.val))) = true := by decide +kernel
theorem md_lo : ∀ b : Fin 256, decide (0 ≤ md b.val ∧ md b.val ≤ 12) = true := by decide +kernel
theorem below_of_eq {w w' : World} (h : w = w') : Below w.heap.size w w' := by subst h; exact Below.refl _ _
theorem tells_walk (b : Nat) (hb : b < 256) (w : World) (hL : Laid w) : Calls Tryd.prog 3 #[.int .u8 b] w (LawEnd w) := by
  have hp := placeD_byte b hb
  cases hn : placeL.getD b none with
  | none =>
    have ho : isOp b = false := by unfold isOp; rw [hn]; rfl
    have hv : ofV b = .tuple #[.agg #[.string ⟨#[]⟩, .int .i64 0, .int .i64 0], .int .i64 13] := by unfold ofV opC errOf; rw [ho]; rfl
    have hc : cycV b = 0 := by unfold cycV; rw [ho]; rfl
    refine tells_no b hb (fun w => ?_) (fun w => ?_) (fun w => ?_) w
    · rw [← hv]; exact of_c b hb w
    · have e1 : findR (b : Int) = -1 := by unfold findR; rw [hp, hn]
      have e2 : findM (b : Int) = -1 := by unfold findM; rw [hp, hn]
      have := find_c (b : Int) w
      rw [e1, e2] at this
      exact this
    · rw [← hc]; exact cycp_no b hb ho w
  | some n =>
    have ho : isOp b = true := by unfold isOp; rw [hn]; rfl
    have hlt : n < 728 := by
      have := place_lt ⟨b, hb⟩
      simp only [hn] at this
      exact of_decide_eq_true this
    have hmd : md b = ((n % 13 : Nat) : Int) := by unfold md; rw [hn]
    have hnm : nm b = nameL.getD (n / 13) [] := by unfold nm; rw [hn]
    have hS : nameD (n / 13) = ⟨(nm b).toArray⟩ := by
      have h := name_lets (n / 13) (by omega)
      rw [← hnm] at h
      show nameD (n / 13) = _
      have h2 : (nameD (n / 13)).data = (nm b).toArray := by
        rw [← h]
      cases hd : nameD (n / 13) with
      | mk d => rw [hd] at h2; exact congrArg ByteArray.mk h2
    have hl : lets ⟨(nm b).toArray⟩ = nm b := by unfold lets; simp
    have hk : kindP (nm b) (md b) = kindD ⟨(nm b).toArray⟩ (md b) := by
      have := kind_same ⟨b, hb⟩
      simp only [ho, Bool.not_true, Bool.false_or, beq_iff_eq] at this
      rw [kindD_list, hl, this]
    have hc : cycV b = cycD ⟨(nm b).toArray⟩ (md b) := by
      have := cyc_same ⟨b, hb⟩
      simp only [ho, Bool.not_true, Bool.false_or, beq_iff_eq] at this
      unfold cycV
      rw [ho, cycD_list, hl, this, if_pos rfl]
    have hm := of_decide_eq_true (md_lo ⟨b, hb⟩)
    have hv : ofV b = .tuple #[.agg #[.string ⟨(nm b).toArray⟩, .int .i64 (md b), .int .i64 (kindP (nm b) (md b))], .int .i64 0] := by unfold ofV opC errOf; rw [ho]; rfl
    refine tells_op b hb ⟨(nm b).toArray⟩ (md b) (kindP (nm b) (md b)) (cycV b) (n / 13) (fun w => ?_) (fun w => ?_) (fun w => ?_) (fun w => ?_) (fun w hw => ?_) (fun w => ?_) w hL
    · rw [← hv]; exact of_c b hb w
    · have e1 : findR (b : Int) = ((n / 13 : Nat) : Int) := by unfold findR; rw [hp, hn]
      have e2 : findM (b : Int) = md b := by unfold findM; rw [hp, hn, hmd]
      have := find_c (b : Int) w
      rw [e1, e2] at this
      exact this
    · rw [← hS]; exact name_c (n / 13) (by omega) w
    · rw [hk]; exact (kind_c _ _ w).mono fun e w' ⟨h1, h2⟩ => ⟨h1, below_of_eq h2⟩
    · exact cycp_c b hb w hw
    · rw [hc]; exact (cycles_c _ _ hm.1 hm.2 w).mono fun e w' ⟨h1, h2⟩ => ⟨h1, below_of_eq h2⟩
end Go.Proofs.YtnigcmicimdphaaDoor
