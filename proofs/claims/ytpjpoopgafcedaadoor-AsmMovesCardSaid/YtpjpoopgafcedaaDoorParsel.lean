/-
  Layer 5, the program: Parse, over all modes.
-/
import Derived.Test.YtpjpoopgafcedaaDoorParsep
import Derived.Test.YtpjpoopgafcedaaDoorRead
set_option linter.unusedSimpArgs false
set_option linter.unusedVariables false
namespace Go.Proofs.YtpjpoopgafcedaaDoor
open Go.RowKit Go.PlainAid

set_option maxRecDepth 100000 in
set_option maxHeartbeats 1000000 in
theorem parsep_no (l : List UInt8) (hi : isText l = false) (w : World) :
    Calls Tryd.prog 14 #[.string (txB l)] w fun e w' => e = .returned (.tuple #[.agg #[.int .u8 0, .int .i64 0], .int .i64 11]) ∧ Below w.heap.size w w' := by
  have HN := Lib.hid (fun w => hasname_c l w)
  rw [hi] at HN
  generalize txB l = S at *
  go_enter Tryd.func14, Tryd.ntmps14
  go_wp2_with (go_at_call 33; (with_reducible refine (HN.out _).mono ?_); rintro _ _ ⟨rfl, rfl⟩)
  refine bodyPost_ret (v := .tuple #[.agg #[.int .u8 0, .int .i64 0], .int .i64 11]) (by simp [results, Tryd.results14, go_sem]) rfl ⟨rfl, by go_grown⟩
set_option maxRecDepth 100000 in
set_option maxHeartbeats 4000000 in
theorem parsep_long (S S3 SR : ByteArray) (r Ro Rn Re : Int) (wn at' BB BE : Nat → Int) (hRo : Ro = scanOp wn at' r) (hRn : Rn = scanN wn at' r) (hRe : Re = scanE wn at' r)
    (hN : ∀ w, Calls Tryd.prog 33 #[.string S] w fun e w' => e = .returned (.bool true) ∧ w = w')
    (q1 : ∀ W, (Instr.slice 9 (.string S) (some (.int .i64 3)) none none).run Tryd.prog W = .ok (.string SR) W)
    (q2 : ∀ W, (Instr.slice 9 (.string S) none (some (.int .i64 3)) none).run Tryd.prog W = .ok (.string S3) W)
    (hP : ∀ m : Nat, m < 13 → ∀ W, LaidE W → Calls Tryd.prog 34 #[arV (befP m) (dgP m) (aftP m), .string SR] W fun e w' => e = .returned (.tuple #[.int .i64 (if wn m < 0 then 0 else wn m), .bool (decide (0 ≤ wn m))]) ∧ Below W.heap.size W w')
    (hB : ∀ m : Nat, ∀ W, Calls Tryd.prog 35 #[.string S3, .int .i64 m] W fun e w' => e = .returned (.tuple #[.int .u8 (BB m), .int .i64 (BE m)]) ∧ Below W.heap.size W w')
    (hR : ∀ m : Nat, m < 13 → (r < 0 ∧ BB m = 0 ∧ BE m = 14) ∨ (0 ≤ r ∧ at' m < 0 ∧ BB m = 0 ∧ BE m = 15) ∨ (0 ≤ r ∧ 0 ≤ at' m ∧ BB m = at' m ∧ BE m = 0)) (w : World) (hld : Laid w) (hE : LaidE w) :
    Calls Tryd.prog 14 #[.string S] w fun e w' => e = .returned (.tuple #[.agg #[.int .u8 Ro, .int .i64 Rn], .int .i64 Re]) ∧ Below w.heap.size w w' := by
  have HN := Lib.hid hN
  have HP := Lib.hid hP
  have HB := Lib.hid hB
  have HR := Lib.hid hR
  have HX := Lib.hid (fun m hm W => run_ars_index m hm W)
  have HRo := Lib.hid hRo
  have HRn := Lib.hid hRn
  have HRe := Lib.hid hRe
  clear hN hP hB hR hRo hRn hRe
  obtain ⟨t, fr, hg⟩ := hld.1
  have hz := arA_size
  have hinfo := info_ars
  rw [← hz] at hinfo
  generalize arA = A at *
  go_enter Tryd.func14, Tryd.ntmps14
  go_upto_region 4 with (first | (go_at_call 33; (with_reducible refine (HN.out _).mono ?_); rintro _ _ ⟨rfl, rfl⟩) | fail)
  refine wp_pin (fun w' => w'.cell? ⟨w.heap.size, 0, none⟩ = some (.int .u8 0) ∧ w'.frozen? ⟨w.heap.size, 0, none⟩ = false ∧ w'.cell? ⟨w.heap.size, 1, none⟩ = some (.int .i64 0) ∧ w'.frozen? ⟨w.heap.size, 1, none⟩ = false ∧ Below w.heap.size w w') ?_ ?_
  · (try dsimp only)
    refine ⟨?_, ?_, ?_, ?_, ?_⟩ <;> first | (go_simp; done) | (simp [*]; done) | go_grown
  intro u T
  (try dsimp only at T)
  obtain ⟨hx_0, fx_0, hx_1, fx_1, hB⟩ := T
  have hsz := hB.size
  have hlx := klt hx_0
  have hnx0 : ¬ (w.heap.size = u.heap.size) := by omega
  have hnx1 : ¬ (w.heap.size = u.heap.size + 1) := by omega
  have hkx1 : w.heap.size < u.heap.size + 1 := by omega
  have hnx2 : ¬ (w.heap.size = u.heap.size + 1 + 1) := by omega
  have hkx2 : w.heap.size < u.heap.size + 1 + 1 := by omega
  have hg2 : u.heap[0]? = some (.cells A t fr) := (hB.block _ (Array.getElem?_eq_some_iff.1 hg).1).trans hg
  go_wp2_with (refine wpList_load_row rfl 63 _ rfl 0 rfl t A fr _ hg2 under_ars rfl hinfo ?_)
  go_loopw [4, 16] (fun v i wr => ∃ (k : Nat) (V : Int), k ≤ 13 ∧ i = .int .i64 k ∧ v = .int .i64 V ∧ Hid (∀ n, n < k → hitM wn at' r n = false) ∧ Hid (V = if someM wn k then (if r < 0 then 14 else 15) else 11) ∧ wr.cell? ⟨w.heap.size, 0, none⟩ = some (.int .u8 0) ∧ wr.frozen? ⟨w.heap.size, 0, none⟩ = false ∧ wr.cell? ⟨w.heap.size, 1, none⟩ = some (.int .i64 0) ∧ wr.frozen? ⟨w.heap.size, 1, none⟩ = false ∧ Below w.heap.size w wr) (fun _ i _ => 13 - (intOf i).toNat)
  case atStart => exact ⟨0, 11, by omega, rfl, rfl, Lib.hid (fun n h => by omega), Lib.hid rfl, hx_0, fx_0, hx_1, fx_1, hB⟩
  case round =>
    obtain ⟨k, V, hk, rfl, rfl, HH, HV, hrel⟩ := hrel
    clear hx_0 fx_0 hx_1 fx_1 hB hsz hlx hnx0 hnx1 hkx1 hnx2 hkx2
    obtain ⟨hx_0, fx_0, hx_1, fx_1, hB⟩ := hrel
    have hsz := hB.size
    have hlx := klt hx_0
    have hnx0 : ¬ (w.heap.size = wr.heap.size) := by omega
    have hnx1 : ¬ (w.heap.size = wr.heap.size + 1) := by omega
    have hkx1 : w.heap.size < wr.heap.size + 1 := by omega
    have hnx2 : ¬ (w.heap.size = wr.heap.size + 1 + 1) := by omega
    have hkx2 : w.heap.size < wr.heap.size + 1 + 1 := by omega
    by_cases hlt : k < 13
    · have hd : decide ((k : Int) < 13) = true := decide_eq_true (by omega)
      have qx := fun W => HX.out k hlt W
      have HPk := Lib.hid (HP.out k hlt)
      unfold arV at qx HPk
      generalize txB (befP k) = bS at *
      generalize txB (aftP k) = aS at *
      generalize dgP k = D at *
      go_upto_region 7 with fail
      refine wp_pin (fun w' => w'.cell? ⟨w.heap.size, 0, none⟩ = some (.int .u8 0) ∧ w'.frozen? ⟨w.heap.size, 0, none⟩ = false ∧ w'.cell? ⟨w.heap.size, 1, none⟩ = some (.int .i64 0) ∧ w'.frozen? ⟨w.heap.size, 1, none⟩ = false ∧ w'.cell? ⟨wr.heap.size, 0, none⟩ = some (.string bS) ∧ w'.cell? ⟨wr.heap.size, 1, none⟩ = some (.int .i64 D) ∧ w'.cell? ⟨wr.heap.size, 2, none⟩ = some (.string aS) ∧ Below w.heap.size w w') ?_ ?_
      · (try dsimp only)
        refine ⟨?_, ?_, ?_, ?_, ?_, ?_, ?_, ?_⟩ <;> first | (go_simp; done) | (simp [*]; done) | go_grown
      intro u2 T
      (try dsimp only at T)
      clear hx_0 fx_0 hx_1 fx_1 hB hsz hlx hnx0 hnx1 hkx1 hnx2 hkx2
      obtain ⟨hx_0, fx_0, hx_1, fx_1, hy_0, hy_1, hy_2, hB⟩ := T
      have hsz := hB.size
      have hlx := klt hx_0
      have hly := klt hy_0
      have hnx0 : ¬ (w.heap.size = u2.heap.size) := by omega
      have hnx1 : ¬ (w.heap.size = u2.heap.size + 1) := by omega
      have hkx1 : w.heap.size < u2.heap.size + 1 := by omega
      have hnx2 : ¬ (w.heap.size = u2.heap.size + 1 + 1) := by omega
      have hkx2 : w.heap.size < u2.heap.size + 1 + 1 := by omega
      have hny0 : ¬ (wr.heap.size = u2.heap.size) := by omega
      have hny1 : ¬ (wr.heap.size = u2.heap.size + 1) := by omega
      have hky1 : wr.heap.size < u2.heap.size + 1 := by omega
      have hny2 : ¬ (wr.heap.size = u2.heap.size + 1 + 1) := by omega
      have hky2 : wr.heap.size < u2.heap.size + 1 + 1 := by omega
      refine wp_region_plan (fun w' => w'.cell? ⟨w.heap.size, 0, none⟩ = some (.int .u8 0) ∧ w'.frozen? ⟨w.heap.size, 0, none⟩ = false ∧ w'.cell? ⟨w.heap.size, 1, none⟩ = some (.int .i64 0) ∧ w'.frozen? ⟨w.heap.size, 1, none⟩ = false ∧ w'.cell? ⟨wr.heap.size, 0, none⟩ = some (.string bS) ∧ w'.cell? ⟨wr.heap.size, 1, none⟩ = some (.int .i64 D) ∧ w'.cell? ⟨wr.heap.size, 2, none⟩ = some (.string aS) ∧ Below w.heap.size w w') (by kernel_rfl) (by kernel_rfl) (by kernel_rfl) ?_ ?_
      · (try dsimp only)
        refine ⟨?_, ?_, ?_, ?_, ?_, ?_, ?_, ?_⟩ <;> first | (go_simp; done) | (simp [*]; done) | go_grown
      repeat (first
        | (refine Plan.val (v := ?_) ?_ ?_ ?_; rotate_left; (· rfl); (· (intro W hSw; (try dsimp only at hSw); go_simp; all_goals (first | (with_reducible rfl) | (constructor <;> (with_reducible rfl))))); (try simp only [Act.put, List.setIfInBounds_toArray, List.set_cons_zero, List.set_cons_succ]))
        | (refine Plan.no ?_ ?_; (· rfl); (try simp only [Act.put, List.setIfInBounds_toArray, List.set_cons_zero, List.set_cons_succ]))
        | (refine Plan.call (v := ?_) (f := ?_) (args := ?_) ?_ ?_ ?_ ?_; rotate_left 3; (· rfl); (· (intro W hSw; (try dsimp only at hSw); go_simp; all_goals (first | (with_reducible rfl) | (constructor <;> (with_reducible rfl))))); (· (intro W hSw; (try dsimp only at hSw); first | (go_at_call 34; ((with_reducible refine (HPk.out _ (hE.below hSw.2.2.2.2.2.2.2)).mono ?_); rintro _ wz ⟨rfl, hb⟩; (refine ⟨?_, ?_⟩; (· with_reducible rfl); exact ⟨kc hb hSw.1, kfz hb (klt hSw.1) hSw.2.1, kc hb hSw.2.2.1, kfz hb (klt hSw.2.2.1) hSw.2.2.2.1, kc hb hSw.2.2.2.2.1, kc hb hSw.2.2.2.2.2.1, kc hb hSw.2.2.2.2.2.2.1, kb hSw.2.2.2.2.2.2.2 hb⟩))))); (try simp only [Act.put, List.setIfInBounds_toArray, List.set_cons_zero, List.set_cons_succ])))
      refine Plan.done ?_
      intro u3 T
      (try dsimp only at T)
      clear hx_0 fx_0 hx_1 fx_1 hy_0 hy_1 hy_2 hB hsz hlx hly hnx0 hnx1 hkx1 hnx2 hkx2 hny0 hny1 hky1 hny2 hky2
      obtain ⟨hx_0, fx_0, hx_1, fx_1, hy_0, hy_1, hy_2, hB⟩ := T
      have hsz := hB.size
      have hlx := klt hx_0
      have hly := klt hy_0
      have hnx0 : ¬ (w.heap.size = u3.heap.size) := by omega
      have hnx1 : ¬ (w.heap.size = u3.heap.size + 1) := by omega
      have hkx1 : w.heap.size < u3.heap.size + 1 := by omega
      have hnx2 : ¬ (w.heap.size = u3.heap.size + 1 + 1) := by omega
      have hkx2 : w.heap.size < u3.heap.size + 1 + 1 := by omega
      have hny0 : ¬ (wr.heap.size = u3.heap.size) := by omega
      have hny1 : ¬ (wr.heap.size = u3.heap.size + 1) := by omega
      have hky1 : wr.heap.size < u3.heap.size + 1 := by omega
      have hny2 : ¬ (wr.heap.size = u3.heap.size + 1 + 1) := by omega
      have hky2 : wr.heap.size < u3.heap.size + 1 + 1 := by omega
      have hbl := hB
      by_cases hw : wn k < 0
      · have e1 : decide (0 ≤ wn k) = false := decide_eq_false (by omega)
        have HH2 := Lib.hid (show ∀ n, n < k + 1 → hitM wn at' r n = false from fun n hn => by
          by_cases e : n = k
          · rw [e]; unfold hitM; rw [e1]; rfl
          · exact HH.out n (by omega))
        have HV2 := Lib.hid (show V = if someM wn (k + 1) then (if r < 0 then 14 else 15) else 11 from by rw [someM_succ, e1, Bool.or_false]; exact HV.out)
        rw [e1, if_pos hw]
        clear hw e1 HR HPk
        go_wp2
        go_roundw
        case rel => exact ⟨k + 1, V, by omega, by go_num, rfl, HH2, HV2, hx_0, fx_0, hx_1, fx_1, hbl⟩
        case measure => simp [intOf]; omega
      · have e1 : decide (0 ≤ wn k) = true := decide_eq_true (by omega)
        have hsome : someM wn (k + 1) = true := by rw [someM_succ, e1, Bool.or_true]
        rw [e1, if_neg hw]
        have HBk := Lib.hid (HB.out k)
        rcases HR.out k hlt with ⟨c1, c2, c3⟩ | ⟨c1, c2, c3, c4⟩ | ⟨c1, c2, c3, c4⟩
        · rw [c2, c3] at HBk
          have HH2 := Lib.hid (show ∀ n, n < k + 1 → hitM wn at' r n = false from fun n hn => by
            by_cases e : n = k
            · rw [e]; unfold hitM; rw [decide_eq_false (show ¬ 0 ≤ r by omega)]; simp
            · exact HH.out n (by omega))
          have HV2 := Lib.hid (show (14 : Int) = if someM wn (k + 1) then (if r < 0 then 14 else 15) else 11 from by rw [hsome, if_pos rfl, if_pos c1])
          generalize wn k = W at *
          clear hw e1 HR HPk hsome c1 c2 c3
          go_wp2_with fail
          ((with_reducible refine (HBk.out _).mono ?_); rintro _ u4 ⟨rfl, hb⟩)
          have T : u4.cell? ⟨w.heap.size, 0, none⟩ = some (.int .u8 0) ∧ u4.frozen? ⟨w.heap.size, 0, none⟩ = false ∧ u4.cell? ⟨w.heap.size, 1, none⟩ = some (.int .i64 0) ∧ u4.frozen? ⟨w.heap.size, 1, none⟩ = false := by
              refine ⟨?_, ?_, ?_, ?_⟩ <;> first | (refine kc hb ?_ <;> (go_simp; first | done | rfl)) | (refine kfz hb ?_ ?_ <;> first | (go_size; done) | (go_simp; done))
          have hz := hb.size
          (try simp only [World.size_alloc, World.size_setCell, World.size_drew] at hz)
          have hlx' : w.heap.size < u4.heap.size := by omega
          have hB' : Below w.heap.size w u4 := by
              refine kb ?_ hb
              go_grown
          clear hx_0 fx_0 hx_1 fx_1 hy_0 hy_1 hy_2 hB hsz hlx hly hnx0 hnx1 hkx1 hnx2 hkx2 hny0 hny1 hky1 hny2 hky2
          clear hb hz
          obtain ⟨hx_0, fx_0, hx_1, fx_1⟩ := T
          have hlx := hlx'; clear hlx'
          have hnx0 : ¬ (w.heap.size = u4.heap.size) := by omega
          have hnx1 : ¬ (w.heap.size = u4.heap.size + 1) := by omega
          have hkx1 : w.heap.size < u4.heap.size + 1 := by omega
          have hnx2 : ¬ (w.heap.size = u4.heap.size + 1 + 1) := by omega
          have hkx2 : w.heap.size < u4.heap.size + 1 + 1 := by omega
          have hB := hB'; clear hB'
          have hsz := hB.size
          have hbl := hB
          go_wp2
          go_roundw
          case rel => exact ⟨k + 1, 14, by omega, by go_num, rfl, HH2, HV2, hx_0, fx_0, hx_1, fx_1, hbl⟩
          case measure => simp [intOf]; omega
        · rw [c3, c4] at HBk
          have HH2 := Lib.hid (show ∀ n, n < k + 1 → hitM wn at' r n = false from fun n hn => by
            by_cases e : n = k
            · rw [e]; unfold hitM; rw [decide_eq_false (show ¬ 0 ≤ at' k by omega)]; simp
            · exact HH.out n (by omega))
          have HV2 := Lib.hid (show (15 : Int) = if someM wn (k + 1) then (if r < 0 then 14 else 15) else 11 from by rw [hsome, if_pos rfl, if_neg (by omega)])
          generalize wn k = W at *
          clear hw e1 HR HPk hsome c1 c2 c3 c4
          go_wp2_with fail
          ((with_reducible refine (HBk.out _).mono ?_); rintro _ u4 ⟨rfl, hb⟩)
          have T : u4.cell? ⟨w.heap.size, 0, none⟩ = some (.int .u8 0) ∧ u4.frozen? ⟨w.heap.size, 0, none⟩ = false ∧ u4.cell? ⟨w.heap.size, 1, none⟩ = some (.int .i64 0) ∧ u4.frozen? ⟨w.heap.size, 1, none⟩ = false := by
              refine ⟨?_, ?_, ?_, ?_⟩ <;> first | (refine kc hb ?_ <;> (go_simp; first | done | rfl)) | (refine kfz hb ?_ ?_ <;> first | (go_size; done) | (go_simp; done))
          have hz := hb.size
          (try simp only [World.size_alloc, World.size_setCell, World.size_drew] at hz)
          have hlx' : w.heap.size < u4.heap.size := by omega
          have hB' : Below w.heap.size w u4 := by
              refine kb ?_ hb
              go_grown
          clear hx_0 fx_0 hx_1 fx_1 hy_0 hy_1 hy_2 hB hsz hlx hly hnx0 hnx1 hkx1 hnx2 hkx2 hny0 hny1 hky1 hny2 hky2
          clear hb hz
          obtain ⟨hx_0, fx_0, hx_1, fx_1⟩ := T
          have hlx := hlx'; clear hlx'
          have hnx0 : ¬ (w.heap.size = u4.heap.size) := by omega
          have hnx1 : ¬ (w.heap.size = u4.heap.size + 1) := by omega
          have hkx1 : w.heap.size < u4.heap.size + 1 := by omega
          have hnx2 : ¬ (w.heap.size = u4.heap.size + 1 + 1) := by omega
          have hkx2 : w.heap.size < u4.heap.size + 1 + 1 := by omega
          have hB := hB'; clear hB'
          have hsz := hB.size
          have hbl := hB
          go_wp2
          go_roundw
          case rel => exact ⟨k + 1, 15, by omega, by go_num, rfl, HH2, HV2, hx_0, fx_0, hx_1, fx_1, hbl⟩
          case measure => simp [intOf]; omega
        · rw [c3, c4] at HBk
          have HSC := Lib.hid (scan_some hlt (show hitM wn at' r k = true from by unfold hitM; rw [e1, decide_eq_true c1, decide_eq_true c2]; rfl) HH.out)
          have r1 : Ro = at' k := by rw [HRo.out]; exact HSC.out.1
          have r2 : Rn = wn k := by rw [HRn.out]; exact HSC.out.2.1
          have r3 : Re = 0 := by rw [HRe.out]; exact HSC.out.2.2
          have R1 := Lib.hid r1
          have R2 := Lib.hid r2
          have R3 := Lib.hid r3
          clear r1 r2 r3 HSC HRo HRn HRe
          generalize wn k = W at *
          generalize at' k = T at *
          clear hw e1 HR HPk hsome c1 c2 c3 c4
          go_wp2_with fail
          ((with_reducible refine (HBk.out _).mono ?_); rintro _ u4 ⟨rfl, hb⟩)
          have T : u4.cell? ⟨w.heap.size, 0, none⟩ = some (.int .u8 0) ∧ u4.frozen? ⟨w.heap.size, 0, none⟩ = false ∧ u4.cell? ⟨w.heap.size, 1, none⟩ = some (.int .i64 0) ∧ u4.frozen? ⟨w.heap.size, 1, none⟩ = false := by
              refine ⟨?_, ?_, ?_, ?_⟩ <;> first | (refine kc hb ?_ <;> (go_simp; first | done | rfl)) | (refine kfz hb ?_ ?_ <;> first | (go_size; done) | (go_simp; done))
          have hz := hb.size
          (try simp only [World.size_alloc, World.size_setCell, World.size_drew] at hz)
          have hlx' : w.heap.size < u4.heap.size := by omega
          have hB' : Below w.heap.size w u4 := by
              refine kb ?_ hb
              go_grown
          clear hx_0 fx_0 hx_1 fx_1 hy_0 hy_1 hy_2 hB hsz hlx hly hnx0 hnx1 hkx1 hnx2 hkx2 hny0 hny1 hky1 hny2 hky2
          clear hb hz
          obtain ⟨hx_0, fx_0, hx_1, fx_1⟩ := T
          have hlx := hlx'; clear hlx'
          have hnx0 : ¬ (w.heap.size = u4.heap.size) := by omega
          have hnx1 : ¬ (w.heap.size = u4.heap.size + 1) := by omega
          have hkx1 : w.heap.size < u4.heap.size + 1 := by omega
          have hnx2 : ¬ (w.heap.size = u4.heap.size + 1 + 1) := by omega
          have hkx2 : w.heap.size < u4.heap.size + 1 + 1 := by omega
          have hB := hB'; clear hB'
          have hsz := hB.size
          go_wp2
          obtain ⟨s0, s1, s2⟩ := two_cells hx_0 hx_1
          refine bodyPost_ret (v := .tuple #[.agg #[.int .u8 T, .int .i64 W], .int .i64 0]) (by simp [results, Tryd.results14, go_sem, s0, s1, s2, old_cell (s0 _ _), old_cell (s1 _ _)]) rfl ⟨by rw [R1.out, R2.out, R3.out], by go_grown⟩
    · have hk13 : k = 13 := by omega
      subst hk13
      have HSC := Lib.hid (scan_none HH.out)
      have r1 : Ro = 0 := by rw [HRo.out]; exact HSC.out.1
      have r2 : Rn = 0 := by rw [HRn.out]; exact HSC.out.2.1
      have r3 : Re = V := by rw [HRe.out, HV.out]; exact HSC.out.2.2
      have R1 := Lib.hid r1
      have R2 := Lib.hid r2
      have R3 := Lib.hid r3
      clear r1 r2 r3 HSC HRo HRn HRe HH HV
      go_wp2
      obtain ⟨s0, s1, s2⟩ := two_cells hx_0 hx_1
      refine bodyPost_ret (v := .tuple #[.agg #[.int .u8 0, .int .i64 0], .int .i64 V]) (by simp [results, Tryd.results14, go_sem, s0, s1, s2, old_cell (s0 _ _), old_cell (s1 _ _)]) rfl ⟨by rw [R1.out, R2.out, R3.out], by go_grown⟩
theorem parm_c (l : List UInt8) (m : Nat) (hm : m < 13) (hl : l.length ≤ 9223372036854775807) (W : World) (hE : LaidE W) : Calls Tryd.prog 34 #[arV (befP m) (dgP m) (aftP m), .string (txB l)] W fun e w' => e = .returned (.tuple #[.int .i64 (if writtenD l (m : Int) < 0 then 0 else writtenD l (m : Int)), .bool (decide (0 ≤ writtenD l (m : Int)))]) ∧ Below W.heap.size W w' := by
  have := parw_c (befP m) (aftP m) l (dgP m) (dg_four m hm) (bef_len ⟨m, hm⟩) (aft_len ⟨m, hm⟩) hl W hE
  rw [parw_is l m hm] at this
  exact this
theorem parsep_c (l : List UInt8) (hl : l.length ≤ 9223372036854775807) (w : World) (hld : Laid w) (hE : LaidE w) :
    Calls Tryd.prog 14 #[.string (txB l)] w fun e w' => e = .returned (.tuple #[.agg #[.int .u8 (parseO l), .int .i64 (parseN l)], .int .i64 (parseE l)]) ∧ Below w.heap.size w w' := by
  cases hi : isText l
  · have e1 : parseO l = 0 := by unfold parseO; rw [hi]; rfl
    have e2 : parseN l = 0 := by unfold parseN; rw [hi]; rfl
    have e3 : parseE l = 11 := by unfold parseE; rw [hi]; rfl
    rw [e1, e2, e3]
    exact parsep_no l hi w
  · have hlen : ¬ l.length < 3 := by intro h; unfold isText at hi; rw [decide_eq_true h] at hi; cases hi
    have e1 : parseO l = scanOp (fun m => writtenD (l.drop 3) m) (atRL (rowL3 (l.take 3))) (rowL3 (l.take 3)) := by unfold parseO; rw [hi]; rfl
    have e2 : parseN l = scanN (fun m => writtenD (l.drop 3) m) (atRL (rowL3 (l.take 3))) (rowL3 (l.take 3)) := by unfold parseN; rw [hi]; rfl
    have e3 : parseE l = scanE (fun m => writtenD (l.drop 3) m) (atRL (rowL3 (l.take 3))) (rowL3 (l.take 3)) := by unfold parseE; rw [hi]; rfl
    refine parsep_long (txB l) (txB (l.take 3)) (txB (l.drop 3)) (rowL3 (l.take 3)) (parseO l) (parseN l) (parseE l) (fun m => writtenD (l.drop 3) m) (atRL (rowL3 (l.take 3))) (fun m => byteB (l.take 3) m) (fun m => byteE (l.take 3) m) e1 e2 e3
      (fun w => ?_) (fun W => ?_) (fun W => ?_) (fun m hm W hE => ?_) (fun m W => ?_) (fun m hm => byte_row (l.take 3) m hm) w hld hE
    · have := hasname_c l w
      rw [hi] at this
      exact this
    · rw [run_slice_string_l (ht := Tryd.underlying9) (h0 := by omega) (h1 := by rw [txB_size]; omega), txB_extract, txB_size, List.take_length]
      rfl
    · rw [run_slice_string_h (ht := Tryd.underlying9) (h0 := by omega) (h2 := by rw [txB_size]; omega), txB_extract]
      rfl
    · exact parm_c (l.drop 3) m hm (by rw [List.length_drop]; omega) W hE
    · have := byte_c (txB (l.take 3)) (m : Int) W
      rw [txB_toList] at this
      exact this
end Go.Proofs.YtpjpoopgafcedaaDoor
