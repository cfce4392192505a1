/-
  AsmPrints returns true: the walk.
-/
import Derived.Test.YtpjpoopgafcedaaDoorAwake5
import Derived.Test.YtpjpoopgafcedaaDoorLawKit
import Derived.Test.YtpjpoopgafcedaaDoorPlanT
set_option linter.unusedSimpArgs false
set_option linter.unusedVariables false
namespace Go.Proofs.YtpjpoopgafcedaaDoor
open Go.RowKit Go.PlainAid Go.Joins

theorem at_le : ∀ x ∈ atL, x ≤ 255 := by decide +kernel
theorem atRL_le (r : Int) (m : Nat) : atRL r m ≤ 255 := by
  unfold atRL
  rw [List.getD_eq_getElem?_getD]
  cases h : atL[13 * r.toNat + m]? with
  | none => simp
  | some x => exact at_le x (List.mem_of_getElem? h)
theorem parse_op (l : List UInt8) : 0 ≤ parseO l ∧ parseO l < 256 := by
  unfold parseO
  cases isText l
  · simp
  · simp only [if_true]
    unfold scanOp
    cases h : scanO (fun m => writtenD (l.drop 3) m) (atRL (rowL3 (l.take 3))) (rowL3 (l.take 3)) with
    | none => simp
    | some m =>
      unfold scanO at h
      have h1 := List.find?_some h
      unfold hitM at h1
      simp only [Bool.and_eq_true, decide_eq_true_eq] at h1
      have := atRL_le (rowL3 (l.take 3)) m
      dsimp only
      omega
set_option maxRecDepth 100000 in
set_option maxHeartbeats 1000000 in
theorem prints_long (b : Nat) (n : Int) (S : ByteArray) (h : ¬ S.size ≤ 30) (w : World) (hl : Laid w) : Calls Tryd.prog 3 #[.agg #[.int .u8 b, .int .i64 n], .string S] w (LawEnd w) := by
  have hd : decide ((30 : Int) < (S.size : Int)) = true := decide_eq_true (by omega)
  have HA := Lib.hid awake_c
  clear h
  go_enter Tryd.func3, Tryd.ntmps3
  go_wp2_with fail
  ((with_reducible refine (HA.out _ (hl.below (by go_grown))).mono ?_); rintro _ u ⟨rfl, hb⟩)
  have hz := hb.size
  (try simp only [World.size_alloc, World.size_setCell, World.size_drew] at hz)
  have hB' : Below w.heap.size w u := by
      refine kb ?_ hb
      go_grown
  clear hb hz
  have hB := hB'; clear hB'
  have hsz := hB.size
  go_wp2
  go_ret
  exact ⟨rfl, by go_grown⟩
set_option maxRecDepth 100000 in
set_option maxHeartbeats 4000000 in
theorem prints_short (b : Nat) (hb : b < 256) (n : Int) (S P T : ByteArray) (E o m e : Int) (ho : 0 ≤ o ∧ o < 256) (h : S.size ≤ 30)
    (hP : ∀ w, Laid w → Calls Tryd.prog 10 #[.agg #[.int .u8 b, .int .i64 n]] w fun e w' => e = .returned (.tuple #[.string P, .int .i64 E]) ∧ Below w.heap.size w w')
    (hW : ∀ w, Calls Tryd.prog 11 #[.agg #[.int .i64 b, .int .i64 n]] w fun e w' => e = .returned (.int .i64 E) ∧ Below w.heap.size w w')
    (hT : E = 0 → ∀ w, Calls Tryd.prog 13 #[.agg #[.int .i64 b, .int .i64 n]] w fun e w' => e = .returned (.string T) ∧ Below w.heap.size w w')
    (hPT : E = 0 → P = T) (hPN : E ≠ 0 → P = ⟨#[]⟩)
    (hQ : ∀ w, Laid w → LaidE w → Calls Tryd.prog 14 #[.string S] w fun x w' => x = .returned (.tuple #[.agg #[.int .u8 o, .int .i64 m], .int .i64 e]) ∧ Below w.heap.size w w')
    (hR : ∀ w, Calls Tryd.prog 15 #[.string S] w fun x w' => x = .returned (.tuple #[.agg #[.int .i64 o, .int .i64 m], .int .i64 e]) ∧ Below w.heap.size w w') (w : World) (hl : Laid w) (hE : LaidE w) :
    Calls Tryd.prog 3 #[.agg #[.int .u8 b, .int .i64 n], .string S] w (LawEnd w) := by
  have hd : decide ((30 : Int) < (S.size : Int)) = false := decide_eq_false (by omega)
  have HA := Lib.hid awake_c
  have HP := Lib.hid hP
  have HW := Lib.hid hW
  have HPl := Lib.hid (fun W => plain_c (b : Int) n (by omega) W)
  have HQ := Lib.hid hQ
  have HR := Lib.hid hR
  have HO := Lib.hid (fun W => plain_c o m ho W)
  have hcase : (E == 0) = true ∧ P = T ∧ Hid (∀ w, Calls Tryd.prog 13 #[.agg #[.int .i64 b, .int .i64 n]] w fun e w' => e = .returned (.string T) ∧ Below w.heap.size w w') ∨ (E == 0) = false ∧ P = ⟨#[]⟩ := by
    by_cases h : E = 0
    · exact .inl ⟨by rw [h]; rfl, hPT h, Lib.hid (hT h)⟩
    · exact .inr ⟨by rw [beq_eq_false_iff_ne]; exact h, hPN h⟩
  clear h hP hW hT hPT hPN hQ hR ho
  rcases hcase with ⟨e1, rfl, HT⟩ | ⟨e1, rfl⟩
  · have e2 : (E != 0) = false := by unfold bne; rw [e1]; rfl
    go_enter Tryd.func3, Tryd.ntmps3
    go_wp2_with fail
    ((with_reducible refine (HP.out _ (hl.below (by go_grown))).mono ?_); rintro _ u1 ⟨rfl, hb⟩)
    have T : u1.cell? ⟨w.heap.size, 0, none⟩ = some (.int .u8 b) ∧ u1.cell? ⟨w.heap.size, 1, none⟩ = some (.int .i64 n) := by
        refine ⟨?_, ?_⟩ <;> refine kc hb ?_ <;> (go_simp; first | done | rfl)
    have hz := hb.size
    (try simp only [World.size_alloc, World.size_setCell, World.size_drew] at hz)
    have hlx' : w.heap.size < u1.heap.size := by omega
    have hB' : Below w.heap.size w u1 := by
        refine kb ?_ hb
        go_grown
    clear hb hz
    obtain ⟨hx_0, hx_1⟩ := T
    have hlx := hlx'; clear hlx'
    have hnx0 : ¬ (w.heap.size = u1.heap.size) := by omega
    have hnx1 : ¬ (w.heap.size = u1.heap.size + 1) := by omega
    have hkx1 : w.heap.size < u1.heap.size + 1 := by omega
    have hnx2 : ¬ (w.heap.size = u1.heap.size + 1 + 1) := by omega
    have hkx2 : w.heap.size < u1.heap.size + 1 + 1 := by omega
    have hB := hB'; clear hB'
    have hsz := hB.size
    go_wp2_with fail
    ((with_reducible refine (HPl.out _).mono ?_); rintro _ u2 ⟨rfl, hb⟩)
    have T : u2.cell? ⟨w.heap.size, 0, none⟩ = some (.int .u8 b) ∧ u2.cell? ⟨w.heap.size, 1, none⟩ = some (.int .i64 n) := by
        refine ⟨?_, ?_⟩ <;> refine kc hb ?_ <;> (go_simp; first | done | rfl)
    have hz := hb.size
    (try simp only [World.size_alloc, World.size_setCell, World.size_drew] at hz)
    have hlx' : w.heap.size < u2.heap.size := by omega
    have hB' : Below w.heap.size w u2 := by
        refine kb ?_ hb
        go_grown
    clear hx_0 hx_1 hlx hnx0 hnx1 hkx1 hnx2 hkx2 hB hsz
    clear hb hz
    obtain ⟨hx_0, hx_1⟩ := T
    have hlx := hlx'; clear hlx'
    have hnx0 : ¬ (w.heap.size = u2.heap.size) := by omega
    have hnx1 : ¬ (w.heap.size = u2.heap.size + 1) := by omega
    have hkx1 : w.heap.size < u2.heap.size + 1 := by omega
    have hnx2 : ¬ (w.heap.size = u2.heap.size + 1 + 1) := by omega
    have hkx2 : w.heap.size < u2.heap.size + 1 + 1 := by omega
    have hB := hB'; clear hB'
    have hsz := hB.size
    go_wp2_with fail
    ((with_reducible refine (HW.out _).mono ?_); rintro _ u3 ⟨rfl, hb⟩)
    have T : u3.cell? ⟨w.heap.size, 0, none⟩ = some (.int .u8 b) ∧ u3.cell? ⟨w.heap.size, 1, none⟩ = some (.int .i64 n) := by
        refine ⟨?_, ?_⟩ <;> refine kc hb ?_ <;> (go_simp; first | done | rfl)
    have hz := hb.size
    (try simp only [World.size_alloc, World.size_setCell, World.size_drew] at hz)
    have hlx' : w.heap.size < u3.heap.size := by omega
    have hB' : Below w.heap.size w u3 := by
        refine kb ?_ hb
        go_grown
    clear hx_0 hx_1 hlx hnx0 hnx1 hkx1 hnx2 hkx2 hB hsz
    clear hb hz
    obtain ⟨hx_0, hx_1⟩ := T
    have hlx := hlx'; clear hlx'
    have hnx0 : ¬ (w.heap.size = u3.heap.size) := by omega
    have hnx1 : ¬ (w.heap.size = u3.heap.size + 1) := by omega
    have hkx1 : w.heap.size < u3.heap.size + 1 := by omega
    have hnx2 : ¬ (w.heap.size = u3.heap.size + 1 + 1) := by omega
    have hkx2 : w.heap.size < u3.heap.size + 1 + 1 := by omega
    have hB := hB'; clear hB'
    have hsz := hB.size
    go_wp2_with fail
    ((with_reducible refine (HPl.out _).mono ?_); rintro _ u4 ⟨rfl, hb⟩)
    have T : u4.cell? ⟨w.heap.size, 0, none⟩ = some (.int .u8 b) ∧ u4.cell? ⟨w.heap.size, 1, none⟩ = some (.int .i64 n) := by
        refine ⟨?_, ?_⟩ <;> refine kc hb ?_ <;> (go_simp; first | done | rfl)
    have hz := hb.size
    (try simp only [World.size_alloc, World.size_setCell, World.size_drew] at hz)
    have hlx' : w.heap.size < u4.heap.size := by omega
    have hB' : Below w.heap.size w u4 := by
        refine kb ?_ hb
        go_grown
    clear hx_0 hx_1 hlx hnx0 hnx1 hkx1 hnx2 hkx2 hB hsz
    clear hb hz
    obtain ⟨hx_0, hx_1⟩ := T
    have hlx := hlx'; clear hlx'
    have hnx0 : ¬ (w.heap.size = u4.heap.size) := by omega
    have hnx1 : ¬ (w.heap.size = u4.heap.size + 1) := by omega
    have hkx1 : w.heap.size < u4.heap.size + 1 := by omega
    have hnx2 : ¬ (w.heap.size = u4.heap.size + 1 + 1) := by omega
    have hkx2 : w.heap.size < u4.heap.size + 1 + 1 := by omega
    have hB := hB'; clear hB'
    have hsz := hB.size
    go_wp2_with fail
    ((with_reducible refine (HT.out _).mono ?_); rintro _ u5 ⟨rfl, hb⟩)
    have T : u5.cell? ⟨w.heap.size, 0, none⟩ = some (.int .u8 b) ∧ u5.cell? ⟨w.heap.size, 1, none⟩ = some (.int .i64 n) := by
        refine ⟨?_, ?_⟩ <;> refine kc hb ?_ <;> (go_simp; first | done | rfl)
    have hz := hb.size
    (try simp only [World.size_alloc, World.size_setCell, World.size_drew] at hz)
    have hlx' : w.heap.size < u5.heap.size := by omega
    have hB' : Below w.heap.size w u5 := by
        refine kb ?_ hb
        go_grown
    clear hx_0 hx_1 hlx hnx0 hnx1 hkx1 hnx2 hkx2 hB hsz
    clear hb hz
    obtain ⟨hx_0, hx_1⟩ := T
    have hlx := hlx'; clear hlx'
    have hnx0 : ¬ (w.heap.size = u5.heap.size) := by omega
    have hnx1 : ¬ (w.heap.size = u5.heap.size + 1) := by omega
    have hkx1 : w.heap.size < u5.heap.size + 1 := by omega
    have hnx2 : ¬ (w.heap.size = u5.heap.size + 1 + 1) := by omega
    have hkx2 : w.heap.size < u5.heap.size + 1 + 1 := by omega
    have hB := hB'; clear hB'
    have hsz := hB.size
    go_wp2_with fail
    ((with_reducible refine (HQ.out _ (hl.below hB) (hE.below hB)).mono ?_); rintro _ u6 ⟨rfl, hb⟩)
    have hz := hb.size
    (try simp only [World.size_alloc, World.size_setCell, World.size_drew] at hz)
    have hB' : Below w.heap.size w u6 := by
        refine kb ?_ hb
        go_grown
    clear hx_0 hx_1 hlx hnx0 hnx1 hkx1 hnx2 hkx2 hB hsz
    clear hb hz
    have hB := hB'; clear hB'
    have hsz := hB.size
    go_wp2_with fail
    ((with_reducible refine (HR.out _).mono ?_); rintro _ u7 ⟨rfl, hb⟩)
    have T : u7.cell? ⟨u6.heap.size, 0, none⟩ = some (.int .u8 o) ∧ u7.cell? ⟨u6.heap.size, 1, none⟩ = some (.int .i64 m) := by
        refine ⟨?_, ?_⟩ <;> refine kc hb ?_ <;> (go_simp; first | done | rfl)
    have hz := hb.size
    (try simp only [World.size_alloc, World.size_setCell, World.size_drew] at hz)
    have hly' : u6.heap.size < u7.heap.size := by omega
    have hB' : Below w.heap.size w u7 := by
        refine kb ?_ hb
        go_grown
    clear hB hsz
    clear hb hz
    obtain ⟨hy_0, hy_1⟩ := T
    have hly := hly'; clear hly'
    have hny0 : ¬ (u6.heap.size = u7.heap.size) := by omega
    have hny1 : ¬ (u6.heap.size = u7.heap.size + 1) := by omega
    have hky1 : u6.heap.size < u7.heap.size + 1 := by omega
    have hny2 : ¬ (u6.heap.size = u7.heap.size + 1 + 1) := by omega
    have hky2 : u6.heap.size < u7.heap.size + 1 + 1 := by omega
    have hB := hB'; clear hB'
    have hsz := hB.size
    go_wp2_with fail
    have hl7 := Lib.hid hl
    refine wp_region_plan (fun w' => w'.cell? ⟨u6.heap.size, 0, none⟩ = some (.int .u8 o) ∧ w'.cell? ⟨u6.heap.size, 1, none⟩ = some (.int .i64 m) ∧ w'.cell? ⟨u7.heap.size, 0, none⟩ = some (.int .i64 o) ∧ w'.cell? ⟨u7.heap.size, 1, none⟩ = some (.int .i64 m) ∧ Below w.heap.size w w') (by kernel_rfl) (by kernel_rfl) (by kernel_rfl) ?_ ?_
    · (try dsimp only)
      refine ⟨?_, ?_, ?_, ?_, ?_⟩ <;> first | (go_simp; done) | (simp [*]; done) | go_grown
    repeat (first
      | (refine Plan.val (v := ?_) ?_ ?_ ?_; rotate_left; (· rfl); (· (intro W hSw; (try dsimp only at hSw); go_simp; all_goals (first | (with_reducible rfl) | (constructor <;> (with_reducible rfl))))); (try simp only [Act.put, List.setIfInBounds_toArray, List.set_cons_zero, List.set_cons_succ]))
      | (refine Plan.no ?_ ?_; (· rfl); (try simp only [Act.put, List.setIfInBounds_toArray, List.set_cons_zero, List.set_cons_succ]))
      | (refine Plan.call (v := ?_) (f := ?_) (args := ?_) ?_ ?_ ?_ ?_; rotate_left 3; (· rfl); (· (intro W hSw; (try dsimp only at hSw); go_simp; all_goals (first | (with_reducible rfl) | (constructor <;> (with_reducible rfl))))); (· (intro W hSw; (try dsimp only at hSw); first | (go_at_call 12; ((with_reducible refine (HO.out _).mono ?_); rintro _ wz ⟨rfl, hb⟩; (refine ⟨?_, ?_⟩; (· with_reducible rfl); exact ⟨kc hb hSw.1, kc hb hSw.2.1, kc hb hSw.2.2.1, kc hb hSw.2.2.2.1, kb hSw.2.2.2.2 hb⟩))) | (go_at_call 9; ((with_reducible refine (HA.out _ (hl7.out.below hSw.2.2.2.2)).mono ?_); rintro _ wz ⟨rfl, hb⟩; (refine ⟨?_, ?_⟩; (· with_reducible rfl); exact ⟨kc hb hSw.1, kc hb hSw.2.1, kc hb hSw.2.2.1, kc hb hSw.2.2.2.1, kb hSw.2.2.2.2 hb⟩))))); (try simp only [Act.put, List.setIfInBounds_toArray, List.set_cons_zero, List.set_cons_succ])))
    refine Plan.done ?_
    intro wz T
    (try dsimp only at T)
    have hBe := T.2.2.2.2
    go_wp2
    go_ret
    exact ⟨rfl, hBe⟩
  · have e2 : (E != 0) = true := by unfold bne; rw [e1]; rfl
    go_enter Tryd.func3, Tryd.ntmps3
    go_wp2_with fail
    ((with_reducible refine (HP.out _ (hl.below (by go_grown))).mono ?_); rintro _ u1 ⟨rfl, hb⟩)
    have T : u1.cell? ⟨w.heap.size, 0, none⟩ = some (.int .u8 b) ∧ u1.cell? ⟨w.heap.size, 1, none⟩ = some (.int .i64 n) := by
        refine ⟨?_, ?_⟩ <;> refine kc hb ?_ <;> (go_simp; first | done | rfl)
    have hz := hb.size
    (try simp only [World.size_alloc, World.size_setCell, World.size_drew] at hz)
    have hlx' : w.heap.size < u1.heap.size := by omega
    have hB' : Below w.heap.size w u1 := by
        refine kb ?_ hb
        go_grown
    clear hb hz
    obtain ⟨hx_0, hx_1⟩ := T
    have hlx := hlx'; clear hlx'
    have hnx0 : ¬ (w.heap.size = u1.heap.size) := by omega
    have hnx1 : ¬ (w.heap.size = u1.heap.size + 1) := by omega
    have hkx1 : w.heap.size < u1.heap.size + 1 := by omega
    have hnx2 : ¬ (w.heap.size = u1.heap.size + 1 + 1) := by omega
    have hkx2 : w.heap.size < u1.heap.size + 1 + 1 := by omega
    have hB := hB'; clear hB'
    have hsz := hB.size
    go_wp2_with fail
    ((with_reducible refine (HPl.out _).mono ?_); rintro _ u2 ⟨rfl, hb⟩)
    have T : u2.cell? ⟨w.heap.size, 0, none⟩ = some (.int .u8 b) ∧ u2.cell? ⟨w.heap.size, 1, none⟩ = some (.int .i64 n) := by
        refine ⟨?_, ?_⟩ <;> refine kc hb ?_ <;> (go_simp; first | done | rfl)
    have hz := hb.size
    (try simp only [World.size_alloc, World.size_setCell, World.size_drew] at hz)
    have hlx' : w.heap.size < u2.heap.size := by omega
    have hB' : Below w.heap.size w u2 := by
        refine kb ?_ hb
        go_grown
    clear hx_0 hx_1 hlx hnx0 hnx1 hkx1 hnx2 hkx2 hB hsz
    clear hb hz
    obtain ⟨hx_0, hx_1⟩ := T
    have hlx := hlx'; clear hlx'
    have hnx0 : ¬ (w.heap.size = u2.heap.size) := by omega
    have hnx1 : ¬ (w.heap.size = u2.heap.size + 1) := by omega
    have hkx1 : w.heap.size < u2.heap.size + 1 := by omega
    have hnx2 : ¬ (w.heap.size = u2.heap.size + 1 + 1) := by omega
    have hkx2 : w.heap.size < u2.heap.size + 1 + 1 := by omega
    have hB := hB'; clear hB'
    have hsz := hB.size
    go_wp2_with fail
    ((with_reducible refine (HW.out _).mono ?_); rintro _ u3 ⟨rfl, hb⟩)
    have T : u3.cell? ⟨w.heap.size, 0, none⟩ = some (.int .u8 b) ∧ u3.cell? ⟨w.heap.size, 1, none⟩ = some (.int .i64 n) := by
        refine ⟨?_, ?_⟩ <;> refine kc hb ?_ <;> (go_simp; first | done | rfl)
    have hz := hb.size
    (try simp only [World.size_alloc, World.size_setCell, World.size_drew] at hz)
    have hlx' : w.heap.size < u3.heap.size := by omega
    have hB' : Below w.heap.size w u3 := by
        refine kb ?_ hb
        go_grown
    clear hx_0 hx_1 hlx hnx0 hnx1 hkx1 hnx2 hkx2 hB hsz
    clear hb hz
    obtain ⟨hx_0, hx_1⟩ := T
    have hlx := hlx'; clear hlx'
    have hnx0 : ¬ (w.heap.size = u3.heap.size) := by omega
    have hnx1 : ¬ (w.heap.size = u3.heap.size + 1) := by omega
    have hkx1 : w.heap.size < u3.heap.size + 1 := by omega
    have hnx2 : ¬ (w.heap.size = u3.heap.size + 1 + 1) := by omega
    have hkx2 : w.heap.size < u3.heap.size + 1 + 1 := by omega
    have hB := hB'; clear hB'
    have hsz := hB.size
    go_wp2_with fail
    ((with_reducible refine (HQ.out _ (hl.below hB) (hE.below hB)).mono ?_); rintro _ u6 ⟨rfl, hb⟩)
    have hz := hb.size
    (try simp only [World.size_alloc, World.size_setCell, World.size_drew] at hz)
    have hB' : Below w.heap.size w u6 := by
        refine kb ?_ hb
        go_grown
    clear hx_0 hx_1 hlx hnx0 hnx1 hkx1 hnx2 hkx2 hB hsz
    clear hb hz
    have hB := hB'; clear hB'
    have hsz := hB.size
    go_wp2_with fail
    ((with_reducible refine (HR.out _).mono ?_); rintro _ u7 ⟨rfl, hb⟩)
    have T : u7.cell? ⟨u6.heap.size, 0, none⟩ = some (.int .u8 o) ∧ u7.cell? ⟨u6.heap.size, 1, none⟩ = some (.int .i64 m) := by
        refine ⟨?_, ?_⟩ <;> refine kc hb ?_ <;> (go_simp; first | done | rfl)
    have hz := hb.size
    (try simp only [World.size_alloc, World.size_setCell, World.size_drew] at hz)
    have hly' : u6.heap.size < u7.heap.size := by omega
    have hB' : Below w.heap.size w u7 := by
        refine kb ?_ hb
        go_grown
    clear hB hsz
    clear hb hz
    obtain ⟨hy_0, hy_1⟩ := T
    have hly := hly'; clear hly'
    have hny0 : ¬ (u6.heap.size = u7.heap.size) := by omega
    have hny1 : ¬ (u6.heap.size = u7.heap.size + 1) := by omega
    have hky1 : u6.heap.size < u7.heap.size + 1 := by omega
    have hny2 : ¬ (u6.heap.size = u7.heap.size + 1 + 1) := by omega
    have hky2 : u6.heap.size < u7.heap.size + 1 + 1 := by omega
    have hB := hB'; clear hB'
    have hsz := hB.size
    go_wp2_with fail
    have hl7 := Lib.hid hl
    refine wp_region_plan (fun w' => w'.cell? ⟨u6.heap.size, 0, none⟩ = some (.int .u8 o) ∧ w'.cell? ⟨u6.heap.size, 1, none⟩ = some (.int .i64 m) ∧ w'.cell? ⟨u7.heap.size, 0, none⟩ = some (.int .i64 o) ∧ w'.cell? ⟨u7.heap.size, 1, none⟩ = some (.int .i64 m) ∧ Below w.heap.size w w') (by kernel_rfl) (by kernel_rfl) (by kernel_rfl) ?_ ?_
    · (try dsimp only)
      refine ⟨?_, ?_, ?_, ?_, ?_⟩ <;> first | (go_simp; done) | (simp [*]; done) | go_grown
    repeat (first
      | (refine Plan.val (v := ?_) ?_ ?_ ?_; rotate_left; (· rfl); (· (intro W hSw; (try dsimp only at hSw); go_simp; all_goals (first | (with_reducible rfl) | (constructor <;> (with_reducible rfl))))); (try simp only [Act.put, List.setIfInBounds_toArray, List.set_cons_zero, List.set_cons_succ]))
      | (refine Plan.no ?_ ?_; (· rfl); (try simp only [Act.put, List.setIfInBounds_toArray, List.set_cons_zero, List.set_cons_succ]))
      | (refine Plan.call (v := ?_) (f := ?_) (args := ?_) ?_ ?_ ?_ ?_; rotate_left 3; (· rfl); (· (intro W hSw; (try dsimp only at hSw); go_simp; all_goals (first | (with_reducible rfl) | (constructor <;> (with_reducible rfl))))); (· (intro W hSw; (try dsimp only at hSw); first | (go_at_call 12; ((with_reducible refine (HO.out _).mono ?_); rintro _ wz ⟨rfl, hb⟩; (refine ⟨?_, ?_⟩; (· with_reducible rfl); exact ⟨kc hb hSw.1, kc hb hSw.2.1, kc hb hSw.2.2.1, kc hb hSw.2.2.2.1, kb hSw.2.2.2.2 hb⟩))) | (go_at_call 9; ((with_reducible refine (HA.out _ (hl7.out.below hSw.2.2.2.2)).mono ?_); rintro _ wz ⟨rfl, hb⟩; (refine ⟨?_, ?_⟩; (· with_reducible rfl); exact ⟨kc hb hSw.1, kc hb hSw.2.1, kc hb hSw.2.2.1, kc hb hSw.2.2.2.1, kb hSw.2.2.2.2 hb⟩))))); (try simp only [Act.put, List.setIfInBounds_toArray, List.set_cons_zero, List.set_cons_succ])))
    refine Plan.done ?_
    intro wz T
    (try dsimp only at T)
    have hBe := T.2.2.2.2
    go_wp2
    go_ret
    exact ⟨rfl, hBe⟩
theorem prints_walk (b : Nat) (hb : b < 256) (n : Int) (l : List UInt8) (hl0 : l.length ≤ 9223372036854775807) (w : World) (hl : Laid w) (hE : LaidE w) :
    Calls Tryd.prog 3 #[.agg #[.int .u8 b, .int .i64 n], .string (txB l)] w (LawEnd w) := by
  by_cases h : (txB l).size ≤ 30
  · refine prints_short b hb n (txB l) (txB (printL b n)) (txB (textD b n.toNat)) (wrongD b n) (parseO l) (parseN l) (parseE l) (parse_op l) h (fun w hl => printl_c b hb n w hl) (fun w => wrong_c b hb n w) (fun h0 w => ?_) (fun h0 => ?_) (fun h0 => ?_)
      (fun w hl hE => parsep_c l hl0 w hl hE) (fun w => parse_c l w) w hl hE
    · obtain ⟨p, hp, h1, h2⟩ := wrong_zero b n h0
      have hmo := most_hi ((p % 13 : Nat) : Int)
      have := text_c b hb n.toNat (by omega) (by rw [hp]; rfl) w
      rw [show ((n.toNat : Nat) : Int) = n by omega] at this
      exact this
    · unfold printL; rw [if_pos h0]
    · unfold printL; rw [if_neg h0]
  · exact prints_long b n _ h w hl
end Go.Proofs.YtpjpoopgafcedaaDoor
