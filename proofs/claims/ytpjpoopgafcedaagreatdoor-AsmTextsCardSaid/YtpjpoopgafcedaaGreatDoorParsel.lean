/-
  The program's Byte by the document's rows; the ways of writing by the document's modes.
  Layer 5, the program: Parse.
  Layer 5, the program: Parse, over all modes.
-/
import Derived.Test.YtpjpoopgafcedaaGreatDoorByte
import Derived.Test.YtpjpoopgafcedaaGreatDoorPars
import Derived.Test.YtpjpoopgafcedaaGreatDoorParw
import Derived.Test.YtpjpoopgafcedaaGreatDoorPrintl
import Derived.Laws.Rows
import Derived.Test.YtpjpoopgafcedaaGreatDoorRead
set_option linter.unusedSimpArgs false
set_option linter.unusedVariables false
namespace Go.Proofs.YtpjpoopgafcedaaGreatDoor
open Go.RowKit Go.PlainAid

theorem nm_row : ∀ b : Fin 256, isOp b.val = true → nameL.any (· == nm b.val) = true := by decide +kernel
theorem some_rows : ∀ r : Fin 56, (List.range 13).all (fun m => byteB (nameL.getD r.val []) m == (if atL.getD (13 * r.val + m) 0 < 0 then 0 else atL.getD (13 * r.val + m) 0) && byteE (nameL.getD r.val []) m == (if atL.getD (13 * r.val + m) 0 < 0 then 15 else 0)) = true := by decide +kernel
theorem first_none (s : List UInt8) (m : Int) (h : ∀ b : OpB, (nm b.1 == s && md b.1 == m) = false) : firstB (upB 256) s m = none := by
  unfold firstB
  rw [List.find?_eq_none]
  intro x _
  rw [h x]; simp
theorem wrong_none (s : List UInt8) (h : ∀ b : OpB, (nm b.1 == s) = false) : wrongB (upB 256) s = 14 := by
  unfold wrongB
  rw [if_neg]
  rw [Bool.not_eq_true, List.any_eq_false]
  intro x _
  rw [h x]; simp
/-- What Byte answers, by the document's row of a name. -/
theorem byte_row (s : List UInt8) (m : Nat) (hm : m < 13) :
    (rowL3 s < 0 ∧ byteB s m = 0 ∧ byteE s m = 14) ∨ (0 ≤ rowL3 s ∧ atRL (rowL3 s) m < 0 ∧ byteB s m = 0 ∧ byteE s m = 15) ∨ (0 ≤ rowL3 s ∧ 0 ≤ atRL (rowL3 s) m ∧ byteB s m = atRL (rowL3 s) m ∧ byteE s m = 0) := by
  unfold rowL3
  cases hr : nameL.findIdx? (· == s) with
  | none =>
    rw [List.findIdx?_eq_none_iff] at hr
    have hno : ∀ b : OpB, (nm b.1 == s) = false := fun b => by
      have h1 := nm_row ⟨b.1, b.2.1⟩ b.2.2
      rw [List.any_eq_true] at h1
      obtain ⟨l, hlm, he⟩ := h1
      have h2 := hr l hlm
      have e : l = nm b.1 := by simpa using he
      rw [e] at h2
      exact h2
    have hB : byteB s m = 0 := by unfold byteB; rw [first_none _ _ (fun b => by rw [hno b]; rfl)]
    have hE : byteE s m = 14 := by unfold byteE; rw [first_none _ _ (fun b => by rw [hno b]; rfl)]; exact wrong_none _ hno
    exact .inl ⟨by decide, hB, hE⟩
  | some r =>
    rw [List.findIdx?_eq_some_iff_getElem] at hr
    obtain ⟨hr1, hr2, _⟩ := hr
    have hr56 : r < 56 := hr1
    have hS : nameL.getD r [] = s := by
      rw [List.getD, List.getElem?_eq_getElem hr1]
      simpa using hr2
    have hall := List.all_eq_true.1 (some_rows ⟨r, hr56⟩) m (List.mem_range.2 hm)
    simp only [Bool.and_eq_true, beq_iff_eq, hS] at hall
    have hv : atRL (r : Int) m = atL.getD (13 * r + m) 0 := by unfold atRL; simp
    simp only [hv]
    by_cases hn : atL.getD (13 * r + m) 0 < 0
    · rw [if_pos hn, if_pos hn] at hall
      exact .inr (.inl ⟨by omega, hn, hall.1, hall.2⟩)
    · rw [if_neg hn, if_neg hn] at hall
      exact .inr (.inr ⟨by omega, by omega, hall.1, hall.2⟩)
theorem fix_is (b a l : List UInt8) (d : Nat) : ((l.length == b.length + d + a.length) && (Lib.hasPrefix l b && Lib.hasSuffix l a)) = ((l.length == b.length + d + a.length) && (l.take b.length == b && l.drop (b.length + d) == a)) := by
  by_cases h : l.length = b.length + d + a.length
  · have e1 : Lib.hasPrefix l b = (l.take b.length == b) := by
      rw [Bool.eq_iff_iff]
      unfold Lib.hasPrefix
      rw [List.isPrefixOf_iff_prefix, beq_iff_eq, List.prefix_iff_eq_take]
      exact eq_comm
    have e2 : Lib.hasSuffix l a = (l.drop (b.length + d) == a) := by
      rw [Bool.eq_iff_iff]
      unfold Lib.hasSuffix
      rw [List.isSuffixOf_iff_suffix, beq_iff_eq, List.suffix_iff_eq_drop, show l.length - a.length = b.length + d by omega]
      exact eq_comm
    rw [e1, e2]
  · rw [show (l.length == b.length + d + a.length) = false by rw [beq_eq_false_iff_ne]; exact h]
    rfl
theorem ways_are : ∀ m : Fin 13, (m.val ≠ 0 ∧ m.val ≠ 1) → befP m.val = 32 :: aheadD (m.val : Int) ∧ dgP m.val = manyD (m.val : Int) ∧ aftP m.val = behindD (m.val : Int) := by decide +kernel
theorem parw_is (l : List UInt8) (m : Nat) (hm : m < 13) : parW (befP m) (dgP m) (aftP m) l = writtenD l (m : Int) := by
  unfold parW
  rw [fix_is]
  by_cases h0 : m = 0
  · subst h0
    unfold writtenD
    cases l with
    | nil => rfl
    | cons x r => simp [befP, dgP, aftP]
  by_cases h1 : m = 1
  · subst h1
    unfold writtenD
    match l with
    | [] => rfl
    | [x] => simp [befP, dgP, aftP]
    | [x, y] => simp [befP, dgP, aftP]
    | x :: y :: z :: r => simp [befP, dgP, aftP]
  obtain ⟨e1, e2, e3⟩ := ways_are ⟨m, hm⟩ ⟨h0, h1⟩
  dsimp only at e1 e2 e3
  have hb0 : ((m : Int) == 0) = false := by rw [beq_eq_false_iff_ne]; omega
  have hb1 : ((m : Int) == 1) = false := by rw [beq_eq_false_iff_ne]; omega
  have hd0 : manyD (m : Int) ≠ 0 := by unfold manyD; split <;> decide
  rw [e1, e2, e3]
  unfold writtenD
  rw [hb0, hb1, if_neg hd0]
  have hl : (l.length == (32 :: aheadD (m : Int)).length + manyD (m : Int) + (behindD (m : Int)).length) = ((l.length : Int) == ((aheadD (m : Int)).length + 1 : Nat) + manyI (m : Int) + ((behindD (m : Int)).length : Int)) := by
    rw [Bool.eq_iff_iff, beq_iff_eq, beq_iff_eq, ← manyI_eq, List.length_cons]
    omega
  rw [hl]
  simp only [List.length_cons, Bool.false_eq_true, if_false]
end Go.Proofs.YtpjpoopgafcedaaGreatDoor
set_option linter.unusedSimpArgs false
set_option linter.unusedVariables false
namespace Go.Proofs.YtpjpoopgafcedaaGreatDoor
open Go.RowKit Go.PlainAid

set_option maxRecDepth 100000 in
set_option maxHeartbeats 1000000 in
theorem hasname_c (l : List UInt8) (w : World) : Calls Tryz.prog 33 #[.string (txB l)] w fun e w' => e = .returned (.bool (isText l)) ∧ w = w' := by
  have hz := txB_size l
  by_cases h : l.length < 3
  · have hi : isText l = false := by unfold isText; rw [decide_eq_true h]; rfl
    have hd : decide ((l.length : Int) < 3) = true := decide_eq_true (by omega)
    rw [hi]
    generalize txB l = S at *
    go_enter Tryz.func33, Tryz.ntmps33
    go_wp2
    go_ret
    exact ⟨rfl, rfl⟩
  · have hi : isText l = greatL l := by unfold isText; rw [decide_eq_false h]; rfl
    have hb : (greatI (bt (txB l) 0) && (greatI (bt (txB l) 1) && greatI (bt (txB l) 2))) = isText l := by
      rw [hi, bt_list (txB l) l rfl, bt_list (txB l) l rfl, bt_list (txB l) l rfl]; rfl
    have hd : decide ((l.length : Int) < 3) = false := decide_eq_false (by omega)
    have HX := Lib.hid (fun k h i hi W => ix_at (txB l) k h i hi W)
    rw [← hb]
    generalize txB l = S at *
    have HG := Lib.hid (fun k => show greatI (bt S k) = (!decide (bt S k < 65) && !decide (90 < bt S k)) from rfl)
    clear hb hi
    go_enter Tryz.func33, Tryz.ntmps33
    go_wp2
    go_loopw [7] (fun i wr => ∃ k : Nat, k ≤ 3 ∧ i = .int .i64 k ∧ Hid (∀ n, n < k → greatI (bt S n) = true) ∧ w = wr) (fun i _ => 3 - (intOf i).toNat)
    case atStart => exact ⟨0, by omega, rfl, Lib.hid (fun n h => by omega), rfl⟩
    case round =>
      obtain ⟨k, hk, rfl, HN, rfl⟩ := hrel
      by_cases hlt : k < 3
      · have hd3 : decide ((k : Int) < 3) = true := decide_eq_true (by omega)
        have q := HX.out k (by omega) k rfl
        have hg := HG.out k
        have HF := Lib.hid (fun (h : greatI (bt S k) = false) => show (greatI (bt S 0) && (greatI (bt S 1) && greatI (bt S 2))) = false from by
          rcases (show k = 0 ∨ k = 1 ∨ k = 2 by omega) with rfl | rfl | rfl <;> rw [h] <;> simp)
        have HS := Lib.hid (fun (h : greatI (bt S k) = true) (n : Nat) (hn : n < k + 1) => show greatI (bt S n) = true from by
          by_cases e : n = k
          · rw [e]; exact h
          · exact HN.out n (by omega))
        generalize bt S k = B at *
        cases b1 : decide (B < 65)
        · cases b2 : decide (90 < B)
          · rw [b1, b2] at hg
            have HS2 := Lib.hid (HS.out hg)
            clear HF HS hg
            go_wp2
            go_roundw
            case rel => exact ⟨k + 1, by omega, by go_num, HS2, trivial⟩
            case measure => simp [intOf]; omega
          · rw [b1, b2] at hg
            have HF2 := Lib.hid (HF.out hg)
            clear HF HS hg
            go_wp2
            go_ret
            exact ⟨ret_bool HF2.out.symm, rfl⟩
        · rw [b1] at hg
          have HF2 := Lib.hid (HF.out hg)
          clear HF HS hg
          go_wp2
          go_ret
          exact ⟨ret_bool HF2.out.symm, rfl⟩
      · have hk3 : k = 3 := by omega
        subst hk3
        have HV := Lib.hid (show (greatI (bt S 0) && (greatI (bt S 1) && greatI (bt S 2))) = true from by rw [HN.out 0 (by omega), HN.out 1 (by omega), HN.out 2 (by omega)]; rfl)
        go_wp2
        go_ret
        exact ⟨ret_bool HV.out.symm, rfl⟩
theorem info_ars : (Tryz.prog.info? 51).map (·.size) = some 39 := by kernel_rfl
theorem arA_row (m : Nat) (hm : m < 13) : arA.extract (m * 3) (m * 3 + 3) = #[.string (txB (befP m)), .int .i64 (dgP m), .string (txB (aftP m))] := by
  have h1 : m = 0 ∨ m = 1 ∨ m = 2 ∨ m = 3 ∨ m = 4 ∨ m = 5 ∨ m = 6 ∨ m = 7 ∨ m = 8 ∨ m = 9 ∨ m = 10 ∨ m = 11 ∨ m = 12 := by omega
  rcases h1 with rfl | rfl | rfl | rfl | rfl | rfl | rfl | rfl | rfl | rfl | rfl | rfl | rfl <;> rfl
theorem run_ars_index (m : Nat) (hm : m < 13) (w : World) : (Instr.index 51 (.agg arA) (.int .i64 m)).run Tryz.prog w = .ok (arV (befP m) (dgP m) (aftP m)) w := by
  have h := arA_row m hm
  unfold arV
  generalize arA = A at *
  have hi : (0 : Int) ≤ (m : Int) ∧ (m : Int) < (13 : Nat) := by omega
  have hi' : ¬ 13 ≤ m := by omega
  simp [Instr.index, run_underlying under_ars, asIntOf, hi, hi', part, agg_ar, size_ar, go_sem, h]
end Go.Proofs.YtpjpoopgafcedaaGreatDoor
set_option linter.unusedSimpArgs false
set_option linter.unusedVariables false
namespace Go.Proofs.YtpjpoopgafcedaaGreatDoor
open Go.RowKit Go.PlainAid

set_option maxRecDepth 100000 in
set_option maxHeartbeats 1000000 in
theorem parsep_no (l : List UInt8) (hi : isText l = false) (w : World) :
    Calls Tryz.prog 20 #[.string (txB l)] w fun e w' => e = .returned (.tuple #[.agg #[.int .u8 0, .int .i64 0], .int .i64 11]) ∧ Below w.heap.size w w' := by
  have HN := Lib.hid (fun w => hasname_c l w)
  rw [hi] at HN
  generalize txB l = S at *
  go_enter Tryz.func20, Tryz.ntmps20
  go_wp2_with (go_at_call 33; (with_reducible refine (HN.out _).mono ?_); rintro _ _ ⟨rfl, rfl⟩)
  refine bodyPost_ret (v := .tuple #[.agg #[.int .u8 0, .int .i64 0], .int .i64 11]) (by simp [results, Tryz.results20, go_sem]) rfl ⟨rfl, by go_grown⟩
set_option maxRecDepth 100000 in
set_option maxHeartbeats 4000000 in
theorem parsep_long (S S3 SR : ByteArray) (r Ro Rn Re : Int) (wn at' BB BE : Nat → Int) (hRo : Ro = scanOp wn at' r) (hRn : Rn = scanN wn at' r) (hRe : Re = scanE wn at' r)
    (hN : ∀ w, Calls Tryz.prog 33 #[.string S] w fun e w' => e = .returned (.bool true) ∧ w = w')
    (q1 : ∀ W, (Instr.slice 9 (.string S) (some (.int .i64 3)) none none).run Tryz.prog W = .ok (.string SR) W)
    (q2 : ∀ W, (Instr.slice 9 (.string S) none (some (.int .i64 3)) none).run Tryz.prog W = .ok (.string S3) W)
    (hP : ∀ m : Nat, m < 13 → ∀ W, LaidE W → Calls Tryz.prog 34 #[arV (befP m) (dgP m) (aftP m), .string SR] W fun e w' => e = .returned (.tuple #[.int .i64 (if wn m < 0 then 0 else wn m), .bool (decide (0 ≤ wn m))]) ∧ Below W.heap.size W w')
    (hB : ∀ m : Nat, ∀ W, Calls Tryz.prog 35 #[.string S3, .int .i64 m] W fun e w' => e = .returned (.tuple #[.int .u8 (BB m), .int .i64 (BE m)]) ∧ Below W.heap.size W w')
    (hR : ∀ m : Nat, m < 13 → (r < 0 ∧ BB m = 0 ∧ BE m = 14) ∨ (0 ≤ r ∧ at' m < 0 ∧ BB m = 0 ∧ BE m = 15) ∨ (0 ≤ r ∧ 0 ≤ at' m ∧ BB m = at' m ∧ BE m = 0)) (w : World) (hld : Laid w) (hE : LaidE w) :
    Calls Tryz.prog 20 #[.string S] w fun e w' => e = .returned (.tuple #[.agg #[.int .u8 Ro, .int .i64 Rn], .int .i64 Re]) ∧ Below w.heap.size w w' := by
  have HN := Lib.hid hN
  have HP := Lib.hid hP
  have HB := Lib.hid hB
  have HR := Lib.hid hR
  have HX := Lib.hid (fun m hm W => run_ars_index m hm W)
  have HRo := Lib.hid hRo
  have HRn := Lib.hid hRn
  have HRe := Lib.hid hRe
  clear hN hP hB hR hRo hRn hRe
  obtain ⟨t, fr, hg⟩ := hld.1
  have hz := arA_size
  have hinfo := info_ars
  rw [← hz] at hinfo
  generalize arA = A at *
  go_enter Tryz.func20, Tryz.ntmps20
  go_upto_region 4 with (first | (go_at_call 33; (with_reducible refine (HN.out _).mono ?_); rintro _ _ ⟨rfl, rfl⟩) | fail)
  refine wp_pin (fun w' => w'.cell? ⟨w.heap.size, 0, none⟩ = some (.int .u8 0) ∧ w'.frozen? ⟨w.heap.size, 0, none⟩ = false ∧ w'.cell? ⟨w.heap.size, 1, none⟩ = some (.int .i64 0) ∧ w'.frozen? ⟨w.heap.size, 1, none⟩ = false ∧ Below w.heap.size w w') ?_ ?_
  · (try dsimp only)
    refine ⟨?_, ?_, ?_, ?_, ?_⟩ <;> first | (go_simp; done) | (simp [*]; done) | go_grown
  intro u T
  (try dsimp only at T)
  obtain ⟨hx_0, fx_0, hx_1, fx_1, hB⟩ := T
  have hsz := hB.size
  have hlx := klt hx_0
  have hnx0 : ¬ (w.heap.size = u.heap.size) := by omega
  have hnx1 : ¬ (w.heap.size = u.heap.size + 1) := by omega
  have hkx1 : w.heap.size < u.heap.size + 1 := by omega
  have hnx2 : ¬ (w.heap.size = u.heap.size + 1 + 1) := by omega
  have hkx2 : w.heap.size < u.heap.size + 1 + 1 := by omega
  have hg2 : u.heap[0]? = some (.cells A t fr) := (hB.block _ (Array.getElem?_eq_some_iff.1 hg).1).trans hg
  go_wp2_with (refine wpList_load_row rfl 51 _ rfl 0 rfl t A fr _ hg2 under_ars rfl hinfo ?_)
  go_loopw [4, 16] (fun v i wr => ∃ (k : Nat) (V : Int), k ≤ 13 ∧ i = .int .i64 k ∧ v = .int .i64 V ∧ Hid (∀ n, n < k → hitM wn at' r n = false) ∧ Hid (V = if someM wn k then (if r < 0 then 14 else 15) else 11) ∧ wr.cell? ⟨w.heap.size, 0, none⟩ = some (.int .u8 0) ∧ wr.frozen? ⟨w.heap.size, 0, none⟩ = false ∧ wr.cell? ⟨w.heap.size, 1, none⟩ = some (.int .i64 0) ∧ wr.frozen? ⟨w.heap.size, 1, none⟩ = false ∧ Below w.heap.size w wr) (fun _ i _ => 13 - (intOf i).toNat)
  case atStart => exact ⟨0, 11, by omega, rfl, rfl, Lib.hid (fun n h => by omega), Lib.hid rfl, hx_0, fx_0, hx_1, fx_1, hB⟩
  case round =>
    obtain ⟨k, V, hk, rfl, rfl, HH, HV, hrel⟩ := hrel
    clear hx_0 fx_0 hx_1 fx_1 hB hsz hlx hnx0 hnx1 hkx1 hnx2 hkx2
    obtain ⟨hx_0, fx_0, hx_1, fx_1, hB⟩ := hrel
    have hsz := hB.size
    have hlx := klt hx_0
    have hnx0 : ¬ (w.heap.size = wr.heap.size) := by omega
    have hnx1 : ¬ (w.heap.size = wr.heap.size + 1) := by omega
    have hkx1 : w.heap.size < wr.heap.size + 1 := by omega
    have hnx2 : ¬ (w.heap.size = wr.heap.size + 1 + 1) := by omega
    have hkx2 : w.heap.size < wr.heap.size + 1 + 1 := by omega
    by_cases hlt : k < 13
    · have hd : decide ((k : Int) < 13) = true := decide_eq_true (by omega)
      have qx := fun W => HX.out k hlt W
      have HPk := Lib.hid (HP.out k hlt)
      unfold arV at qx HPk
      generalize txB (befP k) = bS at *
      generalize txB (aftP k) = aS at *
      generalize dgP k = D at *
      go_upto_region 7 with fail
      refine wp_pin (fun w' => w'.cell? ⟨w.heap.size, 0, none⟩ = some (.int .u8 0) ∧ w'.frozen? ⟨w.heap.size, 0, none⟩ = false ∧ w'.cell? ⟨w.heap.size, 1, none⟩ = some (.int .i64 0) ∧ w'.frozen? ⟨w.heap.size, 1, none⟩ = false ∧ w'.cell? ⟨wr.heap.size, 0, none⟩ = some (.string bS) ∧ w'.cell? ⟨wr.heap.size, 1, none⟩ = some (.int .i64 D) ∧ w'.cell? ⟨wr.heap.size, 2, none⟩ = some (.string aS) ∧ Below w.heap.size w w') ?_ ?_
      · (try dsimp only)
        refine ⟨?_, ?_, ?_, ?_, ?_, ?_, ?_, ?_⟩ <;> first | (go_simp; done) | (simp [*]; done) | go_grown
      intro u2 T
      (try dsimp only at T)
      clear hx_0 fx_0 hx_1 fx_1 hB hsz hlx hnx0 hnx1 hkx1 hnx2 hkx2
      obtain ⟨hx_0, fx_0, hx_1, fx_1, hy_0, hy_1, hy_2, hB⟩ := T
      have hsz := hB.size
      have hlx := klt hx_0
      have hly := klt hy_0
      have hnx0 : ¬ (w.heap.size = u2.heap.size) := by omega
      have hnx1 : ¬ (w.heap.size = u2.heap.size + 1) := by omega
      have hkx1 : w.heap.size < u2.heap.size + 1 := by omega
      have hnx2 : ¬ (w.heap.size = u2.heap.size + 1 + 1) := by omega
      have hkx2 : w.heap.size < u2.heap.size + 1 + 1 := by omega
      have hny0 : ¬ (wr.heap.size = u2.heap.size) := by omega
      have hny1 : ¬ (wr.heap.size = u2.heap.size + 1) := by omega
      have hky1 : wr.heap.size < u2.heap.size + 1 := by omega
      have hny2 : ¬ (wr.heap.size = u2.heap.size + 1 + 1) := by omega
      have hky2 : wr.heap.size < u2.heap.size + 1 + 1 := by omega
      refine wp_region_plan (fun w' => w'.cell? ⟨w.heap.size, 0, none⟩ = some (.int .u8 0) ∧ w'.frozen? ⟨w.heap.size, 0, none⟩ = false ∧ w'.cell? ⟨w.heap.size, 1, none⟩ = some (.int .i64 0) ∧ w'.frozen? ⟨w.heap.size, 1, none⟩ = false ∧ w'.cell? ⟨wr.heap.size, 0, none⟩ = some (.string bS) ∧ w'.cell? ⟨wr.heap.size, 1, none⟩ = some (.int .i64 D) ∧ w'.cell? ⟨wr.heap.size, 2, none⟩ = some (.string aS) ∧ Below w.heap.size w w') (by kernel_rfl) (by kernel_rfl) (by kernel_rfl) ?_ ?_
      · (try dsimp only)
        refine ⟨?_, ?_, ?_, ?_, ?_, ?_, ?_, ?_⟩ <;> first | (go_simp; done) | (simp [*]; done) | go_grown
      repeat (first
        | (refine Plan.val (v := ?_) ?_ ?_ ?_; rotate_left; (· rfl); (· (intro W hSw; (try dsimp only at hSw); go_simp; all_goals (first | (with_reducible rfl) | (constructor <;> (with_reducible rfl))))); (try simp only [Act.put, List.setIfInBounds_toArray, List.set_cons_zero, List.set_cons_succ]))
        | (refine Plan.no ?_ ?_; (· rfl); (try simp only [Act.put, List.setIfInBounds_toArray, List.set_cons_zero, List.set_cons_succ]))
        | (refine Plan.call (v := ?_) (f := ?_) (args := ?_) ?_ ?_ ?_ ?_; rotate_left 3; (· rfl); (· (intro W hSw; (try dsimp only at hSw); go_simp; all_goals (first | (with_reducible rfl) | (constructor <;> (with_reducible rfl))))); (· (intro W hSw; (try dsimp only at hSw); first | (go_at_call 34; ((with_reducible refine (HPk.out _ (hE.below hSw.2.2.2.2.2.2.2)).mono ?_); rintro _ wz ⟨rfl, hb⟩; (refine ⟨?_, ?_⟩; (· with_reducible rfl); exact ⟨kc hb hSw.1, kfz hb (klt hSw.1) hSw.2.1, kc hb hSw.2.2.1, kfz hb (klt hSw.2.2.1) hSw.2.2.2.1, kc hb hSw.2.2.2.2.1, kc hb hSw.2.2.2.2.2.1, kc hb hSw.2.2.2.2.2.2.1, kb hSw.2.2.2.2.2.2.2 hb⟩))))); (try simp only [Act.put, List.setIfInBounds_toArray, List.set_cons_zero, List.set_cons_succ])))
      refine Plan.done ?_
      intro u3 T
      (try dsimp only at T)
      clear hx_0 fx_0 hx_1 fx_1 hy_0 hy_1 hy_2 hB hsz hlx hly hnx0 hnx1 hkx1 hnx2 hkx2 hny0 hny1 hky1 hny2 hky2
      obtain ⟨hx_0, fx_0, hx_1, fx_1, hy_0, hy_1, hy_2, hB⟩ := T
      have hsz := hB.size
      have hlx := klt hx_0
      have hly := klt hy_0
      have hnx0 : ¬ (w.heap.size = u3.heap.size) := by omega
      have hnx1 : ¬ (w.heap.size = u3.heap.size + 1) := by omega
      have hkx1 : w.heap.size < u3.heap.size + 1 := by omega
      have hnx2 : ¬ (w.heap.size = u3.heap.size + 1 + 1) := by omega
      have hkx2 : w.heap.size < u3.heap.size + 1 + 1 := by omega
      have hny0 : ¬ (wr.heap.size = u3.heap.size) := by omega
      have hny1 : ¬ (wr.heap.size = u3.heap.size + 1) := by omega
      have hky1 : wr.heap.size < u3.heap.size + 1 := by omega
      have hny2 : ¬ (wr.heap.size = u3.heap.size + 1 + 1) := by omega
      have hky2 : wr.heap.size < u3.heap.size + 1 + 1 := by omega
      have hbl := hB
      by_cases hw : wn k < 0
      · have e1 : decide (0 ≤ wn k) = false := decide_eq_false (by omega)
        have HH2 := Lib.hid (show ∀ n, n < k + 1 → hitM wn at' r n = false from fun n hn => by
          by_cases e : n = k
          · rw [e]; unfold hitM; rw [e1]; rfl
          · exact HH.out n (by omega))
        have HV2 := Lib.hid (show V = if someM wn (k + 1) then (if r < 0 then 14 else 15) else 11 from by rw [someM_succ, e1, Bool.or_false]; exact HV.out)
        rw [e1, if_pos hw]
        clear hw e1 HR HPk
        go_wp2
        go_roundw
        case rel => exact ⟨k + 1, V, by omega, by go_num, rfl, HH2, HV2, hx_0, fx_0, hx_1, fx_1, hbl⟩
        case measure => simp [intOf]; omega
      · have e1 : decide (0 ≤ wn k) = true := decide_eq_true (by omega)
        have hsome : someM wn (k + 1) = true := by rw [someM_succ, e1, Bool.or_true]
        rw [e1, if_neg hw]
        have HBk := Lib.hid (HB.out k)
        rcases HR.out k hlt with ⟨c1, c2, c3⟩ | ⟨c1, c2, c3, c4⟩ | ⟨c1, c2, c3, c4⟩
        · rw [c2, c3] at HBk
          have HH2 := Lib.hid (show ∀ n, n < k + 1 → hitM wn at' r n = false from fun n hn => by
            by_cases e : n = k
            · rw [e]; unfold hitM; rw [decide_eq_false (show ¬ 0 ≤ r by omega)]; simp
            · exact HH.out n (by omega))
          have HV2 := Lib.hid (show (14 : Int) = if someM wn (k + 1) then (if r < 0 then 14 else 15) else 11 from by rw [hsome, if_pos rfl, if_pos c1])
          generalize wn k = W at *
          clear hw e1 HR HPk hsome c1 c2 c3
          go_wp2_with fail
          ((with_reducible refine (HBk.out _).mono ?_); rintro _ u4 ⟨rfl, hb⟩)
          have T : u4.cell? ⟨w.heap.size, 0, none⟩ = some (.int .u8 0) ∧ u4.frozen? ⟨w.heap.size, 0, none⟩ = false ∧ u4.cell? ⟨w.heap.size, 1, none⟩ = some (.int .i64 0) ∧ u4.frozen? ⟨w.heap.size, 1, none⟩ = false := by
              refine ⟨?_, ?_, ?_, ?_⟩ <;> first | (refine kc hb ?_ <;> (go_simp; first | done | rfl)) | (refine kfz hb ?_ ?_ <;> first | (go_size; done) | (go_simp; done))
          have hz := hb.size
          (try simp only [World.size_alloc, World.size_setCell, World.size_drew] at hz)
          have hlx' : w.heap.size < u4.heap.size := by omega
          have hB' : Below w.heap.size w u4 := by
              refine kb ?_ hb
              go_grown
          clear hx_0 fx_0 hx_1 fx_1 hy_0 hy_1 hy_2 hB hsz hlx hly hnx0 hnx1 hkx1 hnx2 hkx2 hny0 hny1 hky1 hny2 hky2
          clear hb hz
          obtain ⟨hx_0, fx_0, hx_1, fx_1⟩ := T
          have hlx := hlx'; clear hlx'
          have hnx0 : ¬ (w.heap.size = u4.heap.size) := by omega
          have hnx1 : ¬ (w.heap.size = u4.heap.size + 1) := by omega
          have hkx1 : w.heap.size < u4.heap.size + 1 := by omega
          have hnx2 : ¬ (w.heap.size = u4.heap.size + 1 + 1) := by omega
          have hkx2 : w.heap.size < u4.heap.size + 1 + 1 := by omega
          have hB := hB'; clear hB'
          have hsz := hB.size
          have hbl := hB
          go_wp2
          go_roundw
          case rel => exact ⟨k + 1, 14, by omega, by go_num, rfl, HH2, HV2, hx_0, fx_0, hx_1, fx_1, hbl⟩
          case measure => simp [intOf]; omega
        · rw [c3, c4] at HBk
          have HH2 := Lib.hid (show ∀ n, n < k + 1 → hitM wn at' r n = false from fun n hn => by
            by_cases e : n = k
            · rw [e]; unfold hitM; rw [decide_eq_false (show ¬ 0 ≤ at' k by omega)]; simp
            · exact HH.out n (by omega))
          have HV2 := Lib.hid (show (15 : Int) = if someM wn (k + 1) then (if r < 0 then 14 else 15) else 11 from by rw [hsome, if_pos rfl, if_neg (by omega)])
          generalize wn k = W at *
          clear hw e1 HR HPk hsome c1 c2 c3 c4
          go_wp2_with fail
          ((with_reducible refine (HBk.out _).mono ?_); rintro _ u4 ⟨rfl, hb⟩)
          have T : u4.cell? ⟨w.heap.size, 0, none⟩ = some (.int .u8 0) ∧ u4.frozen? ⟨w.heap.size, 0, none⟩ = false ∧ u4.cell? ⟨w.heap.size, 1, none⟩ = some (.int .i64 0) ∧ u4.frozen? ⟨w.heap.size, 1, none⟩ = false := by
              refine ⟨?_, ?_, ?_, ?_⟩ <;> first | (refine kc hb ?_ <;> (go_simp; first | done | rfl)) | (refine kfz hb ?_ ?_ <;> first | (go_size; done) | (go_simp; done))
          have hz := hb.size
          (try simp only [World.size_alloc, World.size_setCell, World.size_drew] at hz)
          have hlx' : w.heap.size < u4.heap.size := by omega
          have hB' : Below w.heap.size w u4 := by
              refine kb ?_ hb
              go_grown
          clear hx_0 fx_0 hx_1 fx_1 hy_0 hy_1 hy_2 hB hsz hlx hly hnx0 hnx1 hkx1 hnx2 hkx2 hny0 hny1 hky1 hny2 hky2
          clear hb hz
          obtain ⟨hx_0, fx_0, hx_1, fx_1⟩ := T
          have hlx := hlx'; clear hlx'
          have hnx0 : ¬ (w.heap.size = u4.heap.size) := by omega
          have hnx1 : ¬ (w.heap.size = u4.heap.size + 1) := by omega
          have hkx1 : w.heap.size < u4.heap.size + 1 := by omega
          have hnx2 : ¬ (w.heap.size = u4.heap.size + 1 + 1) := by omega
          have hkx2 : w.heap.size < u4.heap.size + 1 + 1 := by omega
          have hB := hB'; clear hB'
          have hsz := hB.size
          have hbl := hB
          go_wp2
          go_roundw
          case rel => exact ⟨k + 1, 15, by omega, by go_num, rfl, HH2, HV2, hx_0, fx_0, hx_1, fx_1, hbl⟩
          case measure => simp [intOf]; omega
        · rw [c3, c4] at HBk
          have HSC := Lib.hid (scan_some hlt (show hitM wn at' r k = true from by unfold hitM; rw [e1, decide_eq_true c1, decide_eq_true c2]; rfl) HH.out)
          have r1 : Ro = at' k := by rw [HRo.out]; exact HSC.out.1
          have r2 : Rn = wn k := by rw [HRn.out]; exact HSC.out.2.1
          have r3 : Re = 0 := by rw [HRe.out]; exact HSC.out.2.2
          have R1 := Lib.hid r1
          have R2 := Lib.hid r2
          have R3 := Lib.hid r3
          clear r1 r2 r3 HSC HRo HRn HRe
          generalize wn k = W at *
          generalize at' k = T at *
          clear hw e1 HR HPk hsome c1 c2 c3 c4
          go_wp2_with fail
          ((with_reducible refine (HBk.out _).mono ?_); rintro _ u4 ⟨rfl, hb⟩)
          have T : u4.cell? ⟨w.heap.size, 0, none⟩ = some (.int .u8 0) ∧ u4.frozen? ⟨w.heap.size, 0, none⟩ = false ∧ u4.cell? ⟨w.heap.size, 1, none⟩ = some (.int .i64 0) ∧ u4.frozen? ⟨w.heap.size, 1, none⟩ = false := by
              refine ⟨?_, ?_, ?_, ?_⟩ <;> first | (refine kc hb ?_ <;> (go_simp; first | done | rfl)) | (refine kfz hb ?_ ?_ <;> first | (go_size; done) | (go_simp; done))
          have hz := hb.size
          (try simp only [World.size_alloc, World.size_setCell, World.size_drew] at hz)
          have hlx' : w.heap.size < u4.heap.size := by omega
          have hB' : Below w.heap.size w u4 := by
              refine kb ?_ hb
              go_grown
          clear hx_0 fx_0 hx_1 fx_1 hy_0 hy_1 hy_2 hB hsz hlx hly hnx0 hnx1 hkx1 hnx2 hkx2 hny0 hny1 hky1 hny2 hky2
          clear hb hz
          obtain ⟨hx_0, fx_0, hx_1, fx_1⟩ := T
          have hlx := hlx'; clear hlx'
          have hnx0 : ¬ (w.heap.size = u4.heap.size) := by omega
          have hnx1 : ¬ (w.heap.size = u4.heap.size + 1) := by omega
          have hkx1 : w.heap.size < u4.heap.size + 1 := by omega
          have hnx2 : ¬ (w.heap.size = u4.heap.size + 1 + 1) := by omega
          have hkx2 : w.heap.size < u4.heap.size + 1 + 1 := by omega
          have hB := hB'; clear hB'
          have hsz := hB.size
          go_wp2
          obtain ⟨s0, s1, s2⟩ := two_cells hx_0 hx_1
          refine bodyPost_ret (v := .tuple #[.agg #[.int .u8 T, .int .i64 W], .int .i64 0]) (by simp [results, Tryz.results20, go_sem, s0, s1, s2, old_cell (s0 _ _), old_cell (s1 _ _)]) rfl ⟨by rw [R1.out, R2.out, R3.out], by go_grown⟩
    · have hk13 : k = 13 := by omega
      subst hk13
      have HSC := Lib.hid (scan_none HH.out)
      have r1 : Ro = 0 := by rw [HRo.out]; exact HSC.out.1
      have r2 : Rn = 0 := by rw [HRn.out]; exact HSC.out.2.1
      have r3 : Re = V := by rw [HRe.out, HV.out]; exact HSC.out.2.2
      have R1 := Lib.hid r1
      have R2 := Lib.hid r2
      have R3 := Lib.hid r3
      clear r1 r2 r3 HSC HRo HRn HRe HH HV
      go_wp2
      obtain ⟨s0, s1, s2⟩ := two_cells hx_0 hx_1
      refine bodyPost_ret (v := .tuple #[.agg #[.int .u8 0, .int .i64 0], .int .i64 V]) (by simp [results, Tryz.results20, go_sem, s0, s1, s2, old_cell (s0 _ _), old_cell (s1 _ _)]) rfl ⟨by rw [R1.out, R2.out, R3.out], by go_grown⟩
theorem parm_c (l : List UInt8) (m : Nat) (hm : m < 13) (hl : l.length ≤ 9223372036854775807) (W : World) (hE : LaidE W) : Calls Tryz.prog 34 #[arV (befP m) (dgP m) (aftP m), .string (txB l)] W fun e w' => e = .returned (.tuple #[.int .i64 (if writtenD l (m : Int) < 0 then 0 else writtenD l (m : Int)), .bool (decide (0 ≤ writtenD l (m : Int)))]) ∧ Below W.heap.size W w' := by
  have := parw_c (befP m) (aftP m) l (dgP m) (dg_four m hm) (bef_len ⟨m, hm⟩) (aft_len ⟨m, hm⟩) hl W hE
  rw [parw_is l m hm] at this
  exact this
theorem parsep_c (l : List UInt8) (hl : l.length ≤ 9223372036854775807) (w : World) (hld : Laid w) (hE : LaidE w) :
    Calls Tryz.prog 20 #[.string (txB l)] w fun e w' => e = .returned (.tuple #[.agg #[.int .u8 (parseO l), .int .i64 (parseN l)], .int .i64 (parseE l)]) ∧ Below w.heap.size w w' := by
  cases hi : isText l
  · have e1 : parseO l = 0 := by unfold parseO; rw [hi]; rfl
    have e2 : parseN l = 0 := by unfold parseN; rw [hi]; rfl
    have e3 : parseE l = 11 := by unfold parseE; rw [hi]; rfl
    rw [e1, e2, e3]
    exact parsep_no l hi w
  · have hlen : ¬ l.length < 3 := by intro h; unfold isText at hi; rw [decide_eq_true h] at hi; cases hi
    have e1 : parseO l = scanOp (fun m => writtenD (l.drop 3) m) (atRL (rowL3 (l.take 3))) (rowL3 (l.take 3)) := by unfold parseO; rw [hi]; rfl
    have e2 : parseN l = scanN (fun m => writtenD (l.drop 3) m) (atRL (rowL3 (l.take 3))) (rowL3 (l.take 3)) := by unfold parseN; rw [hi]; rfl
    have e3 : parseE l = scanE (fun m => writtenD (l.drop 3) m) (atRL (rowL3 (l.take 3))) (rowL3 (l.take 3)) := by unfold parseE; rw [hi]; rfl
    refine parsep_long (txB l) (txB (l.take 3)) (txB (l.drop 3)) (rowL3 (l.take 3)) (parseO l) (parseN l) (parseE l) (fun m => writtenD (l.drop 3) m) (atRL (rowL3 (l.take 3))) (fun m => byteB (l.take 3) m) (fun m => byteE (l.take 3) m) e1 e2 e3
      (fun w => ?_) (fun W => ?_) (fun W => ?_) (fun m hm W hE => ?_) (fun m W => ?_) (fun m hm => byte_row (l.take 3) m hm) w hld hE
    · have := hasname_c l w
      rw [hi] at this
      exact this
    · rw [run_slice_string_l (ht := Tryz.underlying9) (h0 := by omega) (h1 := by rw [txB_size]; omega), txB_extract, txB_size, List.take_length]
      rfl
    · rw [run_slice_string_h (ht := Tryz.underlying9) (h0 := by omega) (h2 := by rw [txB_size]; omega), txB_extract]
      rfl
    · exact parm_c (l.drop 3) m hm (by rw [List.length_drop]; omega) W hE
    · have := byte_c (txB (l.take 3)) (m : Int) W
      rw [txB_toList] at this
      exact this
end Go.Proofs.YtpjpoopgafcedaaGreatDoor
