/-
  Layer 5, the program: Print.
-/
import Derived.Test.YtpjpoopgafcedaaDoorCheck
set_option linter.unusedSimpArgs false
set_option linter.unusedVariables false
namespace Go.Proofs.YtpjpoopgafcedaaDoor
open Go.RowKit Go.PlainAid

/-- Where an opcode stands in the document's table. -/
theorem op_place (b : Nat) (ho : isOp b = true) : ∃ p, placeL.getD b none = some p ∧ nm b = nameL.getD (p / 13) [] ∧ md b = ((p % 13 : Nat) : Int) := by
  unfold isOp at ho
  cases h : placeL.getD b none with
  | none => rw [h] at ho; cases ho
  | some p => exact ⟨p, rfl, by unfold nm; rw [h], by unfold md; rw [h]⟩
theorem no_place (b : Nat) (ho : isOp b = false) : placeL.getD b none = none := by
  unfold isOp at ho
  cases h : placeL.getD b none with
  | none => rfl
  | some p => rw [h] at ho; cases ho
/-- What is wrong with a line, and what its opcode is. -/
def checkC (b : Nat) (n : Int) : Array Value := if wrongD b n = 0 then opC b else #[.string ⟨#[]⟩, .int .i64 0, .int .i64 0]
theorem check_c (b : Nat) (hb : b < 256) (n : Int) (w : World) (hl : Laid w) :
    Calls Tryd.prog 26 #[.agg #[.int .u8 b, .int .i64 n]] w fun e w' => e = .returned (.tuple #[.agg (checkC b n), .int .i64 (wrongD b n)]) ∧ Below w.heap.size w w' := by
  cases ho : isOp b
  · have e1 : wrongD b n = 13 := by unfold wrongD; rw [no_place b ho]
    have e2 : checkC b n = #[.string ⟨#[]⟩, .int .i64 0, .int .i64 0] := by unfold checkC; rw [e1]; rfl
    rw [e1, e2]
    exact check_no b hb ho n w
  · obtain ⟨p, hp, _, hmd⟩ := op_place b ho
    have e1 : wrongD b n = if n < 0 ∨ mostD ((p % 13 : Nat) : Int) < n then 10 else 0 := by unfold wrongD; rw [hp]
    have e2 : checkC b n = if n < 0 ∨ mostD ((p % 13 : Nat) : Int) < n then #[.string ⟨#[]⟩, .int .i64 0, .int .i64 0] else opC b := by
      unfold checkC; rw [e1]
      split
      · rw [if_neg (by decide)]
      · rw [if_pos rfl]
    rw [e1, e2]
    exact check_op b (p % 13) hb ho (Nat.mod_lt _ (by omega)) hmd n w hl
theorem tail_is (n : Nat) : ∀ m : Nat, m < 13 → tailD (m : Int) n = befP m ++ digsL n (dgP m) ++ aftP m := by
  intro m hm
  have h1 : m = 0 ∨ m = 1 ∨ m = 2 ∨ m = 3 ∨ m = 4 ∨ m = 5 ∨ m = 6 ∨ m = 7 ∨ m = 8 ∨ m = 9 ∨ m = 10 ∨ m = 11 ∨ m = 12 := by omega
  rcases h1 with rfl | rfl | rfl | rfl | rfl | rfl | rfl | rfl | rfl | rfl | rfl | rfl | rfl <;> rfl
/-- A line's text. -/
def printL (b : Nat) (n : Int) : List UInt8 := if wrongD b n = 0 then textD b n.toNat else []
set_option maxRecDepth 100000 in
set_option maxHeartbeats 1000000 in
theorem print_no (b : Nat) (hb : b < 256) (n : Int) (w : World) (hl : Laid w) (hw : wrongD b n ≠ 0) :
    Calls Tryd.prog 10 #[.agg #[.int .u8 b, .int .i64 n]] w fun e w' => e = .returned (.tuple #[.string ⟨#[]⟩, .int .i64 (wrongD b n)]) ∧ Below w.heap.size w w' := by
  have HC := Lib.hid (fun W hl => check_c b hb n W hl)
  have e2 : checkC b n = #[.string ⟨#[]⟩, .int .i64 0, .int .i64 0] := by unfold checkC; rw [if_neg hw]
  rw [e2] at HC
  have hd : (wrongD b n != 0) = true := by rw [bne_iff_ne]; exact hw
  generalize wrongD b n = V at *
  clear hw e2
  go_enter Tryd.func10, Tryd.ntmps10
  go_wp2_with fail
  ((with_reducible refine (HC.out _ (hl.below (by go_grown))).mono ?_); rintro _ u ⟨rfl, hb⟩)
  have T : u.cell? ⟨w.heap.size, 0, none⟩ = some (.int .u8 b) ∧ u.cell? ⟨w.heap.size, 1, none⟩ = some (.int .i64 n) := by
      refine ⟨?_, ?_⟩ <;> refine kc hb ?_ <;> (go_simp; first | done | rfl)
  have hz := hb.size
  (try simp only [World.size_alloc, World.size_setCell, World.size_drew] at hz)
  have hlx' : w.heap.size < u.heap.size := by omega
  have hB' : Below w.heap.size w u := by
      refine kb ?_ hb
      go_grown
  clear hb hz
  obtain ⟨hx_0, hx_1⟩ := T
  have hlx := hlx'; clear hlx'
  have hnx0 : ¬ (w.heap.size = u.heap.size) := by omega
  have hnx1 : ¬ (w.heap.size = u.heap.size + 1) := by omega
  have hkx1 : w.heap.size < u.heap.size + 1 := by omega
  have hnx2 : ¬ (w.heap.size = u.heap.size + 1 + 1) := by omega
  have hkx2 : w.heap.size < u.heap.size + 1 + 1 := by omega
  have hB := hB'; clear hB'
  have hsz := hB.size
  go_wp2
  refine bodyPost_ret (v := .tuple #[.string ⟨#[]⟩, .int .i64 V]) (by simp [results, Tryd.results10, go_sem]) rfl ⟨rfl, by go_grown⟩
set_option maxRecDepth 100000 in
set_option maxHeartbeats 1000000 in
theorem print_op (b m n : Nat) (hb : b < 256) (ho : isOp b = true) (hm : m < 13) (hmd : md b = (m : Int)) (hw : wrongD b n = 0) (hn : n < 16 ^ dgP m) (w : World) (hl : Laid w) :
    Calls Tryd.prog 10 #[.agg #[.int .u8 b, .int .i64 n]] w fun e w' => e = .returned (.tuple #[.string (txB (nm b ++ tailD m n)), .int .i64 0]) ∧ Below w.heap.size w w' := by
  have HC := Lib.hid (fun W hl => check_c b hb n W hl)
  have e2 : checkC b n = #[.string (txB (nm b)), .int .i64 m, .int .i64 (kindP (nm b) (md b))] := by unfold checkC opC; rw [hw, if_pos rfl, ho, hmd]; rfl
  rw [e2, hw] at HC
  have HP := Lib.hid (fun (w : World) hT => print_c (befP m) (aftP m) (dgP m) n (dg_ways ⟨m, hm⟩) (bef_len ⟨m, hm⟩) (aft_len ⟨m, hm⟩) hn w hT)
  rw [← tail_is n m hm] at HP
  have k0 := hl.at m 0 hm (by omega)
  have k1 := hl.at m 1 hm (by omega)
  have k2 := hl.at m 2 hm (by omega)
  simp only [Nat.add_zero] at k0
  have hlg : 0 < w.heap.size := by obtain ⟨⟨t, fr, h⟩, _⟩ := hl; exact (Array.getElem?_eq_some_iff.1 h).1
  have hng : ¬ (0 = w.heap.size) := by omega
  have hng1 : ¬ (0 = w.heap.size + 1) := by omega
  have hm13 : (m : Int) < 13 := by omega
  unfold arV at *
  have e0 : (arC m)[0]? = some (.string (txB (befP m))) := rfl
  have e1 : (arC m)[1]? = some (.int .i64 (dgP m)) := rfl
  have e2' : (arC m)[2]? = some (.string (txB (aftP m))) := rfl
  rw [e0] at k0
  rw [e1] at k1
  rw [e2'] at k2
  have htz := hl.2
  have hlz : 9 < w.heap.size := klt htz
  have hlen : (txB (nm b)).size = 3 := by
    rw [txB_size]
    obtain ⟨p, hp, hnm, _⟩ := op_place b ho
    rw [hnm]
    exact name_len ⟨p / 13, by have := place_bound b hb p hp; omega⟩
  have hlt : (txB (tailD m n)).size ≤ 100 := by
    rw [txB_size, tail_is n m hm, List.length_append, List.length_append, digsL_len]
    have := bef_len ⟨m, hm⟩
    have := aft_len ⟨m, hm⟩
    have := dg_four m hm
    dsimp only at *
    omega
  have hs1 : ¬ 9223372036854775807 < 3 + (txB (tailD m n)).size := by omega
  have HV := Lib.hid (show txB (nm b) ++ txB (tailD m n) = txB (nm b ++ tailD m n) from txB_append _ _)
  generalize txB (nm b ++ tailD m n) = R at *
  generalize txB (tailD m n) = Q at *
  generalize txB (nm b) = N at *
  generalize kindP (nm b) (md b) = K at *
  generalize txB (befP m) = S at *
  generalize txB (aftP m) = T at *
  generalize dgP m = D at *
  clear e0 e1 e2 e2' hlt hn hw
  go_enter Tryd.func10, Tryd.ntmps10
  go_wp2_with fail
  ((with_reducible refine (HC.out _ (hl.below (by go_grown))).mono ?_); rintro _ u ⟨rfl, hb⟩)
  have T : u.cell? ⟨w.heap.size, 0, none⟩ = some (.int .u8 b) ∧ u.cell? ⟨w.heap.size, 1, none⟩ = some (.int .i64 n) ∧ u.cell? ⟨0, m * 3, none⟩ = some (.string S) ∧ u.cell? ⟨0, m * 3 + 1, none⟩ = some (.int .i64 D) ∧ u.cell? ⟨0, m * 3 + 2, none⟩ = some (.string T) ∧ u.cell? ⟨9, 15, none⟩ = some (.int .u8 4) := by
      refine ⟨?_, ?_, ?_, ?_, ?_, ?_⟩ <;> refine kc hb ?_ <;> (go_simp; first | done | rfl)
  have hz := hb.size
  (try simp only [World.size_alloc, World.size_setCell, World.size_drew] at hz)
  have hlx' : w.heap.size < u.heap.size := by omega
  have hlg' : 0 < u.heap.size := by omega
  have hlz' : 9 < u.heap.size := by omega
  have hB' : Below w.heap.size w u := by
      refine kb ?_ hb
      go_grown
  clear hb hz
  obtain ⟨hx_0, hx_1, hg_0, hg_1, hg_2, hz_0⟩ := T
  have hlx := hlx'; clear hlx'
  have hlg := hlg'; clear hlg'
  have hlz := hlz'; clear hlz'
  have hnx0 : ¬ (w.heap.size = u.heap.size) := by omega
  have hnx1 : ¬ (w.heap.size = u.heap.size + 1) := by omega
  have hkx1 : w.heap.size < u.heap.size + 1 := by omega
  have hnx2 : ¬ (w.heap.size = u.heap.size + 1 + 1) := by omega
  have hkx2 : w.heap.size < u.heap.size + 1 + 1 := by omega
  have hng0 : ¬ (0 = u.heap.size) := by omega
  have hng1 : ¬ (0 = u.heap.size + 1) := by omega
  have hkg1 : 0 < u.heap.size + 1 := by omega
  have hng2 : ¬ (0 = u.heap.size + 1 + 1) := by omega
  have hkg2 : 0 < u.heap.size + 1 + 1 := by omega
  have hnz0 : ¬ (9 = u.heap.size) := by omega
  have hnz1 : ¬ (9 = u.heap.size + 1) := by omega
  have hkz1 : 9 < u.heap.size + 1 := by omega
  have hnz2 : ¬ (9 = u.heap.size + 1 + 1) := by omega
  have hkz2 : 9 < u.heap.size + 1 + 1 := by omega
  have hB := hB'; clear hB'
  have hsz := hB.size
  go_wp2_with fail
  refine wp_pin (fun w' => w'.cell? ⟨w.heap.size, 0, none⟩ = some (.int .u8 b) ∧ w'.cell? ⟨w.heap.size, 1, none⟩ = some (.int .i64 n) ∧ w'.cell? ⟨u.heap.size, 0, none⟩ = some (.string N) ∧ w'.cell? ⟨u.heap.size, 1, none⟩ = some (.int .i64 m) ∧ w'.cell? ⟨u.heap.size, 2, none⟩ = some (.int .i64 K) ∧ w'.cell? ⟨0, m * 3, none⟩ = some (.string S) ∧ w'.cell? ⟨0, m * 3 + 1, none⟩ = some (.int .i64 D) ∧ w'.cell? ⟨0, m * 3 + 2, none⟩ = some (.string T) ∧ w'.cell? ⟨9, 15, none⟩ = some (.int .u8 4) ∧ Below w.heap.size w w') ?_ ?_
  · (try dsimp only)
    refine ⟨?_, ?_, ?_, ?_, ?_, ?_, ?_, ?_, ?_, ?_⟩ <;> first | (go_simp; done) | (simp [*]; done) | go_grown
  intro u2 T
  (try dsimp only at T)
  clear hx_0 hx_1 hg_0 hg_1 hg_2 hz_0 hlx hlg hlz hnx0 hnx1 hkx1 hnx2 hkx2 hng0 hng1 hkg1 hng2 hkg2 hnz0 hnz1 hkz1 hnz2 hkz2 hB hsz
  obtain ⟨hx_0, hx_1, hr_0, hr_1, hr_2, hg_0, hg_1, hg_2, hz_0, hB⟩ := T
  have hsz := hB.size
  have hlx := klt hx_0
  have hlr := klt hr_0
  have hlg := klt hg_0
  have hlz := klt hz_0
  have hnx0 : ¬ (w.heap.size = u2.heap.size) := by omega
  have hnx1 : ¬ (w.heap.size = u2.heap.size + 1) := by omega
  have hkx1 : w.heap.size < u2.heap.size + 1 := by omega
  have hnx2 : ¬ (w.heap.size = u2.heap.size + 1 + 1) := by omega
  have hkx2 : w.heap.size < u2.heap.size + 1 + 1 := by omega
  have hnr0 : ¬ (u.heap.size = u2.heap.size) := by omega
  have hnr1 : ¬ (u.heap.size = u2.heap.size + 1) := by omega
  have hkr1 : u.heap.size < u2.heap.size + 1 := by omega
  have hnr2 : ¬ (u.heap.size = u2.heap.size + 1 + 1) := by omega
  have hkr2 : u.heap.size < u2.heap.size + 1 + 1 := by omega
  have hng0 : ¬ (0 = u2.heap.size) := by omega
  have hng1 : ¬ (0 = u2.heap.size + 1) := by omega
  have hkg1 : 0 < u2.heap.size + 1 := by omega
  have hng2 : ¬ (0 = u2.heap.size + 1 + 1) := by omega
  have hkg2 : 0 < u2.heap.size + 1 + 1 := by omega
  have hnz0 : ¬ (9 = u2.heap.size) := by omega
  have hnz1 : ¬ (9 = u2.heap.size + 1) := by omega
  have hkz1 : 9 < u2.heap.size + 1 := by omega
  have hnz2 : ¬ (9 = u2.heap.size + 1 + 1) := by omega
  have hkz2 : 9 < u2.heap.size + 1 + 1 := by omega
  refine wp_region_planT 9 (fun w' => w'.cell? ⟨w.heap.size, 0, none⟩ = some (.int .u8 b) ∧ w'.cell? ⟨w.heap.size, 1, none⟩ = some (.int .i64 n) ∧ w'.cell? ⟨u.heap.size, 0, none⟩ = some (.string N) ∧ w'.cell? ⟨u.heap.size, 1, none⟩ = some (.int .i64 m) ∧ w'.cell? ⟨u.heap.size, 2, none⟩ = some (.int .i64 K) ∧ w'.cell? ⟨0, m * 3, none⟩ = some (.string S) ∧ w'.cell? ⟨0, m * 3 + 1, none⟩ = some (.int .i64 D) ∧ w'.cell? ⟨0, m * 3 + 2, none⟩ = some (.string T) ∧ w'.cell? ⟨9, 15, none⟩ = some (.int .u8 4) ∧ Below w.heap.size w w') (by kernel_rfl) (by kernel_rfl) (by kernel_rfl) (by kernel_rfl) ?_ ?_
  · (try dsimp only)
    refine ⟨?_, ?_, ?_, ?_, ?_, ?_, ?_, ?_, ?_, ?_⟩ <;> first | (go_simp; done) | (simp [*]; done) | go_grown
  (try simp only [List.append_eq, List.cons_append, List.nil_append, List.toList_toArray, List.take_succ_cons, List.take_zero, List.drop_succ_cons, List.drop_zero])
  repeat (first
    | (refine Plan.val (v := ?_) ?_ ?_ ?_; rotate_left; (· rfl); (· (intro W hSw; (try dsimp only at hSw); go_simp; all_goals (first | (with_reducible rfl) | (constructor <;> (with_reducible rfl))))); (try simp only [Act.put, List.setIfInBounds_toArray, List.set_cons_zero, List.set_cons_succ]))
    | (refine Plan.no ?_ ?_; (· rfl); (try simp only [Act.put, List.setIfInBounds_toArray, List.set_cons_zero, List.set_cons_succ]))
    | (refine Plan.call (v := ?_) (f := ?_) (args := ?_) ?_ ?_ ?_ ?_; rotate_left 3; (· rfl); (· (intro W hSw; (try dsimp only at hSw); go_simp; all_goals (first | (with_reducible rfl) | (constructor <;> (with_reducible rfl))))); (· (intro W hSw; (try dsimp only at hSw); first | (go_at_call 27; ((with_reducible refine (HP.out _ hSw.2.2.2.2.2.2.2.2.1).mono ?_); rintro _ wz ⟨rfl, hb⟩; (refine ⟨?_, ?_⟩; (· with_reducible rfl); exact ⟨kc hb hSw.1, kc hb hSw.2.1, kc hb hSw.2.2.1, kc hb hSw.2.2.2.1, kc hb hSw.2.2.2.2.1, kc hb hSw.2.2.2.2.2.1, kc hb hSw.2.2.2.2.2.2.1, kc hb hSw.2.2.2.2.2.2.2.1, kc hb hSw.2.2.2.2.2.2.2.2.1, kb hSw.2.2.2.2.2.2.2.2.2 hb⟩))))); (try simp only [Act.put, List.setIfInBounds_toArray, List.set_cons_zero, List.set_cons_succ])))
  refine Plan.done ?_
  intro u3 T
  (try dsimp only at T)
  clear hx_0 hx_1 hr_0 hr_1 hr_2 hg_0 hg_1 hg_2 hz_0 hB hsz hlx hlr hlg hlz hnx0 hnx1 hkx1 hnx2 hkx2 hnr0 hnr1 hkr1 hnr2 hkr2 hng0 hng1 hkg1 hng2 hkg2 hnz0 hnz1 hkz1 hnz2 hkz2
  obtain ⟨hx_0, hx_1, hr_0, hr_1, hr_2, hg_0, hg_1, hg_2, hz_0, hB⟩ := T
  have hsz := hB.size
  have hlx := klt hx_0
  have hlr := klt hr_0
  have hlg := klt hg_0
  have hlz := klt hz_0
  have hnx0 : ¬ (w.heap.size = u3.heap.size) := by omega
  have hnx1 : ¬ (w.heap.size = u3.heap.size + 1) := by omega
  have hkx1 : w.heap.size < u3.heap.size + 1 := by omega
  have hnx2 : ¬ (w.heap.size = u3.heap.size + 1 + 1) := by omega
  have hkx2 : w.heap.size < u3.heap.size + 1 + 1 := by omega
  have hnr0 : ¬ (u.heap.size = u3.heap.size) := by omega
  have hnr1 : ¬ (u.heap.size = u3.heap.size + 1) := by omega
  have hkr1 : u.heap.size < u3.heap.size + 1 := by omega
  have hnr2 : ¬ (u.heap.size = u3.heap.size + 1 + 1) := by omega
  have hkr2 : u.heap.size < u3.heap.size + 1 + 1 := by omega
  have hng0 : ¬ (0 = u3.heap.size) := by omega
  have hng1 : ¬ (0 = u3.heap.size + 1) := by omega
  have hkg1 : 0 < u3.heap.size + 1 := by omega
  have hng2 : ¬ (0 = u3.heap.size + 1 + 1) := by omega
  have hkg2 : 0 < u3.heap.size + 1 + 1 := by omega
  have hnz0 : ¬ (9 = u3.heap.size) := by omega
  have hnz1 : ¬ (9 = u3.heap.size + 1) := by omega
  have hkz1 : 9 < u3.heap.size + 1 := by omega
  have hnz2 : ¬ (9 = u3.heap.size + 1 + 1) := by omega
  have hkz2 : 9 < u3.heap.size + 1 + 1 := by omega
  go_wp2
  refine bodyPost_ret (v := .tuple #[.string R, .int .i64 0]) (by simp [results, Tryd.results10, go_sem, HV.out]) rfl ⟨rfl, by go_grown⟩
theorem wrong_zero (b : Nat) (n : Int) (h : wrongD b n = 0) : ∃ p, placeL.getD b none = some p ∧ 0 ≤ n ∧ n ≤ mostD ((p % 13 : Nat) : Int) := by
  unfold wrongD at h
  cases hp : placeL.getD b none with
  | none => rw [hp] at h; cases h
  | some p =>
    rw [hp] at h
    dsimp only at h
    by_cases hc : n < 0 ∨ mostD ((p % 13 : Nat) : Int) < n
    · rw [if_pos hc] at h; cases h
    · exact ⟨p, rfl, by omega, by omega⟩
theorem printl_c (b : Nat) (hb : b < 256) (n : Int) (w : World) (hl : Laid w) :
    Calls Tryd.prog 10 #[.agg #[.int .u8 b, .int .i64 n]] w fun e w' => e = .returned (.tuple #[.string (txB (printL b n)), .int .i64 (wrongD b n)]) ∧ Below w.heap.size w w' := by
  by_cases hw : wrongD b n = 0
  · obtain ⟨p, hp, h0, h1⟩ := wrong_zero b n hw
    have ho : isOp b = true := by unfold isOp; rw [hp]; rfl
    obtain ⟨p', hp', hnm, hmd⟩ := op_place b ho
    obtain rfl : p' = p := Option.some.inj (hp'.symm.trans hp)
    obtain ⟨k, rfl⟩ : ∃ k : Nat, n = k := ⟨n.toNat, by omega⟩
    have e : printL b k = nm b ++ tailD ((p' % 13 : Nat) : Int) k := by
      unfold printL textD
      rw [if_pos hw, hp, hnm]
      simp only [Int.toNat_natCast]
    have hd := most_dg ⟨p' % 13, Nat.mod_lt _ (by omega)⟩
    dsimp only at hd
    rw [e, hw]
    exact print_op b (p' % 13) k hb ho (Nat.mod_lt _ (by omega)) hmd hw (by omega) w hl
  · have e : printL b n = [] := by unfold printL; rw [if_neg hw]
    rw [e]
    exact print_no b hb n w hl hw
end Go.Proofs.YtpjpoopgafcedaaDoor
