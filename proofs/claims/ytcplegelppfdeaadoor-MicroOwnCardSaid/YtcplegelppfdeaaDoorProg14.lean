/-
  The program: an opcode's steps.
-/
import Derived.Test.YtcplegelppfdeaaDoorRows14
import Derived.Test.YtcplegelppfdeaaDoorPlanS
set_option linter.unusedSimpArgs false
set_option linter.unusedVariables false
namespace Go.Proofs.YtcplegelppfdeaaDoor
open Go.RowKit Go.PlainAid

theorem flat_cellsN {w u : World} {g o nf cf : Nat} {l : List Int} (h : HoldsW nE 1 w (.slice (some ⟨g, o, none⟩) nf cf) l) (hb : Below w.heap.size w u) : ∀ j x, (l.flatMap nE)[j]? = some x → u.cell? ((⟨g, o, none⟩ : Addr).add j) = some x := by
  intro j x hx
  rcases h.below hb with ⟨_, e⟩ | ⟨g', o', cap, e, _, hc⟩
  · subst e; simp at hx
  · injection e with e1 e2 e3
    injection e1 with e1
    cases e1
    exact holds_flatN hc j x hx
theorem run_build0 (w : World) : (Instr.buildSlice 22 0 #[]).run Tryd.prog w = .ok (.slice (some ⟨w.heap.size, 0, none⟩) 0 0) (w.alloc (Obj.cells #[] 3)) := by kernel_rfl
set_option maxRecDepth 100000 in
set_option maxHeartbeats 1000000 in
theorem progp_no (b : Nat) (hb : b < 256) (ho : isOp b = false) (w : World) : Calls Tryd.prog 8 #[.int .u8 b] w fun e u => ∃ v, e = .returned (.tuple #[v, .int .i64 13]) ∧ MineI w.heap.size v [] u ∧ Below w.heap.size w u := by
  have HO := Lib.hid (fun w => oof_c b hb w)
  have hv : ofV b = .tuple #[.agg #[.string ⟨#[]⟩, .int .i64 0, .int .i64 0], .int .i64 13] := by unfold ofV opC errOf; rw [ho]; rfl
  rw [hv] at HO
  go_enter Tryd.func8, Tryd.ntmps8
  go_wp2_with fail
  ((with_reducible refine (HO.out _).mono ?_); rintro _ u ⟨rfl, hb⟩)
  have hz := hb.size
  (try simp only [World.size_alloc, World.size_setCell, World.size_drew] at hz)
  have hB' : Below w.heap.size w u := by
      refine kb ?_ hb
      go_grown
  clear hb hz
  have hB := hB'; clear hB'
  have hsz := hB.size
  go_wp2
  go_ret2
  exact ⟨_, rfl, ⟨World.ownsRow_nil _ _ _ _⟩, by go_grown⟩
set_option maxRecDepth 100000 in
set_option maxHeartbeats 4000000 in
theorem progp_c (b : Nat) (hb : b < 256) (ho : isOp b = true) (w : World) (hl : LaidRw w) : Calls Tryd.prog 8 #[.int .u8 b] w fun e u => ∃ v, e = .returned (.tuple #[v, .int .i64 0]) ∧ MineI w.heap.size v (progL b) u ∧ Below w.heap.size w u := by
  have HO := Lib.hid (fun w => oof_c b hb w)
  have hv : ofV b = .tuple #[.agg #[.string ⟨(nm b).toArray⟩, .int .i64 (md b), .int .i64 (kindP (nm b) (md b))], .int .i64 0] := by unfold ofV opC errOf; rw [ho]; rfl
  rw [hv] at HO
  have HP := Lib.hid (fun (n : Nat) (hn : n < 34) h hl => prog_row hb ho (n := n) hn h hl)
  have HM := Lib.hid (fun hl => prog_met hb ho hl)
  have HT1 := Lib.hid (show ∀ n w, (binOp .eql 42 (.agg #[.string ⟨(sN n).1.toArray⟩, .int .i64 (sN n).2.1, .int .i64 (sN n).2.2.1]) (.agg #[.string ⟨(nm b).toArray⟩, .int .i64 (md b), .int .i64 (kindP (nm b) (md b))])).run Tryd.prog w = .ok (.bool (r1 (nm b) (md b) (kindP (nm b) (md b)) n)) w from
    fun n w => by rw [run_key_eql, toList_mk, toList_mk]; rfl)
  have HT2 := Lib.hid (show ∀ n w, (binOp .eql 42 (.agg #[.string ⟨(sN n).1.toArray⟩, .int .i64 (sN n).2.1, .int .i64 (sN n).2.2.1]) (.agg #[.string ⟨#[]⟩, .int .i64 (md b), .int .i64 (kindP (nm b) (md b))])).run Tryd.prog w = .ok (.bool (r2 (md b) (kindP (nm b) (md b)) n)) w from
    fun n w => by rw [run_key_eql, toList_mk, show (ByteArray.mk #[]).toList = [] from by rw [ByteArray.toList_eq]]; rfl)
  obtain ⟨i0, hi, hz0i, hz1i, hz2i⟩ := info_parts Tryd.infoN14
  generalize progL b = PL at *
  generalize kindP (nm b) (md b) = K at *
  generalize r1 (nm b) (md b) K = T1 at *
  generalize r2 (md b) K = T2 at *
  generalize ByteArray.mk (nm b).toArray = S at *
  generalize md b = M at *
  obtain ⟨A, t, fr, hg, hz, hR⟩ := hl
  have HR := Lib.hid hR
  clear hR
  go_enter Tryd.func8, Tryd.ntmps8
  go_wp2_with fail
  ((with_reducible refine (HO.out _).mono ?_); rintro _ u ⟨rfl, hb⟩)
  have hz := hb.size
  (try simp only [World.size_alloc, World.size_setCell, World.size_drew] at hz)
  have hB' : Below w.heap.size w u := by
      refine kb ?_ hb
      go_grown
  clear hb hz
  have hB := hB'; clear hB'
  have hsz := hB.size
  go_upto_region 6 with fail
  refine wp_pin (fun w' => w'.cell? ⟨u.heap.size + 1, 0, none⟩ = some (.string S) ∧ w'.cell? ⟨u.heap.size + 1, 1, none⟩ = some (.int .i64 M) ∧ w'.cell? ⟨u.heap.size + 1, 2, none⟩ = some (.int .i64 K) ∧ w'.cell? ⟨u.heap.size + 2, 0, none⟩ = some (.string ⟨#[]⟩) ∧ w'.cell? ⟨u.heap.size + 2, 1, none⟩ = some (.int .i64 M) ∧ w'.cell? ⟨u.heap.size + 2, 2, none⟩ = some (.int .i64 K) ∧ Below w.heap.size w w') ?_ ?_
  · (try dsimp only)
    refine ⟨?_, ?_, ?_, ?_, ?_, ?_, ?_⟩ <;> first | (go_simp; done) | (simp [*]; done) | go_grown
  intro u2 T
  (try dsimp only at T)
  clear hB hsz
  obtain ⟨hy_0, hy_1, hy_2, hz_0, hz_1, hz_2, hB⟩ := T
  have hsz := hB.size
  have hly := klt hy_0
  have hlz := klt hz_0
  obtain ⟨hny0, hny1, hky1, hny2, hky2⟩ := ap1f hly
  obtain ⟨hnz0, hnz1, hkz1, hnz2, hkz2⟩ := ap0 hlz
  have hg2 : u2.heap[0]? = some (.cells A t fr) := (hB.block 0 (Array.getElem?_eq_some_iff.1 hg).1).trans hg
  go_wp2_with (refine wpList_load_row rfl 45 _ rfl 0 rfl t A fr _ hg2 under_rows rfl (by rw [hz]; exact info_rows) ?_)
  go_loopw [25] (fun i wr => ∃ k : Nat, k ≤ 34 ∧ i = .int .i64 k ∧ Hid (∀ n, n < k → (T1 n || T2 n) = false) ∧ wr.cell? ⟨u.heap.size + 1, 0, none⟩ = some (.string S) ∧ wr.cell? ⟨u.heap.size + 1, 1, none⟩ = some (.int .i64 M) ∧ wr.cell? ⟨u.heap.size + 1, 2, none⟩ = some (.int .i64 K) ∧ wr.cell? ⟨u.heap.size + 2, 0, none⟩ = some (.string ⟨#[]⟩) ∧ wr.cell? ⟨u.heap.size + 2, 1, none⟩ = some (.int .i64 M) ∧ wr.cell? ⟨u.heap.size + 2, 2, none⟩ = some (.int .i64 K) ∧ Below w.heap.size w wr) (fun i _ => 34 - (intOf i).toNat)
  case atStart => exact ⟨0, by omega, rfl, Lib.hid (fun n h => by omega), hy_0, hy_1, hy_2, hz_0, hz_1, hz_2, hB⟩
  case round =>
    obtain ⟨k, hk, rfl, HN, hrel⟩ := hrel
    clear hy_0 hy_1 hy_2 hz_0 hz_1 hz_2 hB hsz hly hlz hny0 hny1 hky1 hny2 hky2 hnz0 hnz1 hkz1 hnz2 hkz2
    obtain ⟨hy_0, hy_1, hy_2, hz_0, hz_1, hz_2, hB⟩ := hrel
    have hsz := hB.size
    have hly := klt hy_0
    have hlz := klt hz_0
    obtain ⟨hny0, hny1, hky1, hny2, hky2⟩ := ap1f hly
    obtain ⟨hnz0, hnz1, hkz1, hnz2, hkz2⟩ := ap0 hlz
    by_cases hlt : k < 34
    · have hd34 : decide ((k : Int) < 34) = true := decide_eq_true (by omega)
      have HF := Lib.hid (fun (h : (T1 k || T2 k) = true) => HP.out k hlt h HN.out)
      have HS := Lib.hid (fun (h : (T1 k || T2 k) = false) (n : Nat) (hn : n < k + 1) => show (T1 n || T2 n) = false from by
        by_cases e : n = k
        · rw [e]; exact h
        · exact HN.out n (by omega))
      obtain ⟨v, h4, h5⟩ := HR.out k hlt
      have hfl : (firL k).length ≤ 5 := of_decide_eq_true (fir_len ⟨k, hlt⟩)
      have hel : (endL (endN k)).length ≤ 5 := of_decide_eq_true (endL_len ⟨k, hlt⟩)
      have hf0 : 0 < (firL k).length := of_decide_eq_true (fir_pos ⟨k, hlt⟩)
      have HE := Lib.hid (fun W => ending_c (endN k) (of_decide_eq_true (end_ok ⟨k, hlt⟩)) W)
      have q := fun W => run_row_index k hlt h4 W
      unfold stepC at q
      have q1 := fun W => HT1.out k W
      have q2 := fun W => HT2.out k W
      clear HR HT1 HT2 HP HM h4
      generalize ByteArray.mk (sN k).1.toArray = s0 at *
      generalize (sN k).2.1 = m0 at *
      generalize (sN k).2.2.1 = k0 at *
      generalize endL (endN k) = el at *
      generalize endN k = c0 at *
      generalize firL k = fl at *
      obtain ⟨nf, hnf⟩ : ∃ nf, fl.length = nf := ⟨_, rfl⟩
      obtain ⟨g, o, cf, rfl⟩ : ∃ g o cf, v = .slice (some ⟨g, o, none⟩) nf cf := by
        rcases h5 with ⟨_, e⟩ | ⟨g, o, cf, e, _⟩
        · rw [e] at hf0; simp at hf0
        · exact ⟨g, o, cf, hnf ▸ e⟩
      have HV := Lib.hid (fun W (hW : Below w.heap.size w W) U (hU : Below W.heap.size W U) => (h5.below hW).below hU)
      clear h5
      have hBw := hB
      cases e1 : T1 k
      · cases e2 : T2 k
        · rw [e1] at q1
          rw [e2] at q2
          rw [e1, e2] at HF HS
          go_wp2
          go_roundw
          case rel => refine ⟨k + 1, by omega, by go_num, Lib.hid (fun n hn => HS.out rfl n hn), ?_, ?_, ?_, ?_, ?_, ?_, by go_grown⟩ <;> (go_simp; done)
          case measure => simp [intOf]; omega
        · rw [e1] at q1
          rw [e2] at q2
          rw [e1, e2] at HF HS
          go_upto_region 10 with fail
          obtain ⟨W0, hW0⟩ : ∃ W, W = wr.alloc (Obj.cells #[.string s0, .int .i64 m0, .int .i64 k0, .slice (some ⟨g, o, none⟩) nf cf, .int .i64 c0] 44) := ⟨_, rfl⟩
          have hB0 : Below wr.heap.size wr W0 := by rw [hW0]; go_grown
          have y3 : W0.cell? ⟨wr.heap.size, 3, none⟩ = some (.slice (some ⟨g, o, none⟩) nf cf) := by rw [hW0]; go_simp; first | done | rfl
          have y4 : W0.cell? ⟨wr.heap.size, 4, none⟩ = some (.int .i64 c0) := by rw [hW0]; go_simp; first | done | rfl
          have hz0 : W0.heap.size = wr.heap.size + 1 := by rw [hW0]; simp
          rw [← hW0]
          clear hW0
          have hV0 := HV.out wr hBw W0 hB0
          have hq1 : (W0.drew.alloc (.cells #[] 3)).ownsRow W0.heap.size 3 1 (.slice (some ⟨W0.heap.size, 0, none⟩) 0 0) 0 [] := ⟨rfl, .inr ⟨W0.heap.size, 0, #[], rfl, Nat.le_refl _, Go.heap_alloc_new W0.drew _, Nat.le_refl _, by decide, rfl, rfl⟩⟩
          have hq2 : Below W0.heap.size W0 (W0.drew.alloc (.cells #[] 3)) := by go_grown
          obtain ⟨v2, W2, hr, how, hgr, -⟩ := Go.run_append_own (P := Tryd.prog) (W0.drew.alloc (.cells #[] 3)) W0.heap.size 22 22 3 i0 (.int .i64 0) 1 8 Tryd.underlying22 hi hz0i hz1i hz2i rfl (by decide) _ 0 [] hq1 ⟨g, o, none⟩ nf cf (fl.flatMap nE) (by rw [flat_len8 nE_len, hnf]) (fun j u hu => flat_cellsN hV0 hq2 j u hu) (one_cells8 nE_one _) (by unfold maxLen; omega) (by omega) (by simp)
          rw [Nat.zero_add, List.nil_append] at how
          have hq3 : Below W0.heap.size W0 W2 := Below.grown hq2 hgr (by simp) (fun k hk => by cases hk; exact Nat.le_refl _)
          have HC := Lib.hid (show ∀ (l : Nat → Bool) (W : World), (W = if l 3 = true then W2 else if l 0 = true then W0.drew.alloc (.cells #[] 3) else W0.drew) → W.cell? ⟨wr.heap.size, 3, none⟩ = some (.slice (some ⟨g, o, none⟩) nf cf) ∧ W.cell? ⟨wr.heap.size, 4, none⟩ = some (.int .i64 c0) from fun l W h => by
            subst h
            split
            · exact ⟨(hq3.cell (show wr.heap.size < W0.heap.size from by omega)).trans y3, (hq3.cell (show wr.heap.size < W0.heap.size from by omega)).trans y4⟩
            · split
              · exact ⟨(hq2.cell (show wr.heap.size < W0.heap.size from by omega)).trans y3, (hq2.cell (show wr.heap.size < W0.heap.size from by omega)).trans y4⟩
              · exact ⟨y3, y4⟩)
          have HQ := Lib.hid (And.intro hq2 (And.intro hq3 how))
          clear hq2 hq3 how hgr hq1 y3 y4
          refine wp_region_planS 9 6 (fun l W => W = if l 3 = true then W2 else if l 0 = true then W0.drew.alloc (.cells #[] 3) else W0.drew) (by kernel_rfl) (by kernel_rfl) (by kernel_rfl) (by kernel_rfl) rfl ?_
          (try simp only [List.append_eq, List.cons_append, List.nil_append, List.toList_toArray, List.take_succ_cons, List.take_zero, List.drop_succ_cons, List.drop_zero])
          refine PlanS.turn (v := .slice (some ⟨W0.heap.size, 0, none⟩) 0 0) rfl ?_ ?_
          · intro l W hS h0 he hc
            have h3 : l 3 = false := by
              cases h3 : l 3 with
              | false => rfl
              | true =>
                have hh := hc 3 _ rfl h3 _ (Array.mem_of_getElem? (i := 0) rfl) rfl
                exact absurd (h0.symm.trans hh) (by decide)
            obtain rfl : W = W0.drew := by simpa [h0, h3] using hS
            refine ⟨W0.drew.alloc (.cells #[] 3), ?_, by simp [h0, h3]⟩
            have qb := run_build0 W0.drew
            unfold execOp
            simp only [Sem.run_bind, Sem.run_pure, List.map_toArray, List.map_nil, qb, Result.andThen_ok]
            rfl
          (try simp only [Act.put, List.setIfInBounds_toArray, List.set_cons_zero, List.set_cons_succ])
          (refine PlanS.val (v := ?_) ?_ ?_ ?_ ?_; rotate_left; (· (intro l; simp)); (· rfl); (· (intro l W hS he; obtain ⟨bc3, bc4⟩ := HC.out l W hS; clear hS he; go_simp; all_goals (first | (with_reducible rfl) | (constructor <;> (with_reducible rfl))))); (try simp only [Act.put, List.setIfInBounds_toArray, List.set_cons_zero, List.set_cons_succ]))
          (refine PlanS.val (v := ?_) ?_ ?_ ?_ ?_; rotate_left; (· (intro l; simp)); (· rfl); (· (intro l W hS he; obtain ⟨bc3, bc4⟩ := HC.out l W hS; clear hS he; go_simp; all_goals (first | (with_reducible rfl) | (constructor <;> (with_reducible rfl))))); (try simp only [Act.put, List.setIfInBounds_toArray, List.set_cons_zero, List.set_cons_succ]))
          refine PlanS.turn (v := v2) rfl ?_ ?_
          · intro l W hS h3 he hc
            have h0 : l 0 = true := he _ (Array.mem_of_getElem? (i := 0) rfl) rfl
            obtain rfl : W = W0.drew.alloc (.cells #[] 3) := by simpa [h0, h3] using hS
            refine ⟨W2, ?_, by simp⟩
            unfold execOp
            simp only [resolve, invoke, builtin, Sem.run_bind, Sem.run_pure, Result.andThen_ok, List.map_toArray, List.map_cons, List.map_nil]
            show ((Builtin.append_ #[22, 22] 22 #[.slice (some ⟨W0.heap.size, 0, none⟩) 0 0, .slice (some ⟨g, o, none⟩) nf cf]).run Tryd.prog (W0.drew.alloc (.cells #[] 3))).andThen _ = _
            rw [hr]
            rfl
          (try simp only [Act.put, List.setIfInBounds_toArray, List.set_cons_zero, List.set_cons_succ])
          (refine PlanS.val (v := ?_) ?_ ?_ ?_ ?_; rotate_left; (· (intro l; simp)); (· rfl); (· (intro l W hS he; obtain ⟨bc3, bc4⟩ := HC.out l W hS; clear hS he; go_simp; all_goals (first | (with_reducible rfl) | (constructor <;> (with_reducible rfl))))); (try simp only [Act.put, List.setIfInBounds_toArray, List.set_cons_zero, List.set_cons_succ]))
          (refine PlanS.val (v := ?_) ?_ ?_ ?_ ?_; rotate_left; (· (intro l; simp)); (· rfl); (· (intro l W hS he; obtain ⟨bc3, bc4⟩ := HC.out l W hS; clear hS he; go_simp; all_goals (first | (with_reducible rfl) | (constructor <;> (with_reducible rfl))))); (try simp only [Act.put, List.setIfInBounds_toArray, List.set_cons_zero, List.set_cons_succ]))
          refine PlanS.done ?_
          intro U hU
          obtain rfl : U = W2 := by simpa using hU
          clear hU
          go_wp2_with fail
          refine (HE.out U).mono ?_
          rintro _ U2 ⟨v3, rfl, h3, hb3⟩
          have HB3 := Lib.hid (Below.trans HQ.out.2.1 (hb3.mono HQ.out.2.1.size))
          have HO3 := Lib.hid (own_below HQ.out.2.2 hb3)
          have H3 := Lib.hid h3
          obtain ⟨p3, c3, rfl⟩ := h3.form
          obtain ⟨p2, c2, rfl⟩ := own_form HO3.out
          clear hb3 h3
          have hs3 : W0.heap.size ≤ U2.heap.size := HB3.out.size
          go_wp2_with (at_builtin; refine wpList_append_o _ rfl _ _ 22 rfl 3 i0 (.int .i64 0) 8 Tryd.underlying22 hi hz0i hz1i hz2i rfl W0.heap.size hs3 fl _ rfl ?c1 el _ rfl H3.out ?c2 ?c3 ?_)
          case c1 => exact hnf ▸ HO3.out
          case c2 => unfold maxLen; omega
          case c3 => omega
          intro v4 U4 h4 hg4
          have HG := Lib.hid (show Below W0.heap.size W0 U4 from Below.grown HB3.out hg4 hs3 (fun k hk => (HO3.out.lt k hk).1))
          have h4 : U4.ownsRow W0.heap.size 3 1 v4 (fl ++ el).length ((fl ++ el).flatMap nE) := by rw [List.length_append, List.flatMap_append, hnf, hz0]; exact h4
          have hw0 : w.heap.size ≤ W0.heap.size := by have := hBw.size; omega
          have HZ := Lib.hid (show MineI w.heap.size v4 PL U4 from ⟨HF.out rfl ▸ own_low h4 hw0⟩)
          have HY := Lib.hid (show Below w.heap.size w U4 from (hBw.trans (hB0.mono hBw.size)).trans (HG.out.mono hw0))
          clear h4 hg4
          go_wp2
          go_ret2
          exact ⟨v4, rfl, HZ.out, HY.out⟩
      · rw [e1] at q1
        rw [e1] at HF HS
        go_upto_region 10 with fail
        obtain ⟨W0, hW0⟩ : ∃ W, W = wr.alloc (Obj.cells #[.string s0, .int .i64 m0, .int .i64 k0, .slice (some ⟨g, o, none⟩) nf cf, .int .i64 c0] 44) := ⟨_, rfl⟩
        have hB0 : Below wr.heap.size wr W0 := by rw [hW0]; go_grown
        have y3 : W0.cell? ⟨wr.heap.size, 3, none⟩ = some (.slice (some ⟨g, o, none⟩) nf cf) := by rw [hW0]; go_simp; first | done | rfl
        have y4 : W0.cell? ⟨wr.heap.size, 4, none⟩ = some (.int .i64 c0) := by rw [hW0]; go_simp; first | done | rfl
        have hz0 : W0.heap.size = wr.heap.size + 1 := by rw [hW0]; simp
        rw [← hW0]
        clear hW0
        have hV0 := HV.out wr hBw W0 hB0
        have hq1 : (W0.drew.alloc (.cells #[] 3)).ownsRow W0.heap.size 3 1 (.slice (some ⟨W0.heap.size, 0, none⟩) 0 0) 0 [] := ⟨rfl, .inr ⟨W0.heap.size, 0, #[], rfl, Nat.le_refl _, Go.heap_alloc_new W0.drew _, Nat.le_refl _, by decide, rfl, rfl⟩⟩
        have hq2 : Below W0.heap.size W0 (W0.drew.alloc (.cells #[] 3)) := by go_grown
        obtain ⟨v2, W2, hr, how, hgr, -⟩ := Go.run_append_own (P := Tryd.prog) (W0.drew.alloc (.cells #[] 3)) W0.heap.size 22 22 3 i0 (.int .i64 0) 1 8 Tryd.underlying22 hi hz0i hz1i hz2i rfl (by decide) _ 0 [] hq1 ⟨g, o, none⟩ nf cf (fl.flatMap nE) (by rw [flat_len8 nE_len, hnf]) (fun j u hu => flat_cellsN hV0 hq2 j u hu) (one_cells8 nE_one _) (by unfold maxLen; omega) (by omega) (by simp)
        rw [Nat.zero_add, List.nil_append] at how
        have hq3 : Below W0.heap.size W0 W2 := Below.grown hq2 hgr (by simp) (fun k hk => by cases hk; exact Nat.le_refl _)
        have HC := Lib.hid (show ∀ (l : Nat → Bool) (W : World), (W = if l 3 = true then W2 else if l 0 = true then W0.drew.alloc (.cells #[] 3) else W0.drew) → W.cell? ⟨wr.heap.size, 3, none⟩ = some (.slice (some ⟨g, o, none⟩) nf cf) ∧ W.cell? ⟨wr.heap.size, 4, none⟩ = some (.int .i64 c0) from fun l W h => by
          subst h
          split
          · exact ⟨(hq3.cell (show wr.heap.size < W0.heap.size from by omega)).trans y3, (hq3.cell (show wr.heap.size < W0.heap.size from by omega)).trans y4⟩
          · split
            · exact ⟨(hq2.cell (show wr.heap.size < W0.heap.size from by omega)).trans y3, (hq2.cell (show wr.heap.size < W0.heap.size from by omega)).trans y4⟩
            · exact ⟨y3, y4⟩)
        have HQ := Lib.hid (And.intro hq2 (And.intro hq3 how))
        clear hq2 hq3 how hgr hq1 y3 y4
        refine wp_region_planS 9 6 (fun l W => W = if l 3 = true then W2 else if l 0 = true then W0.drew.alloc (.cells #[] 3) else W0.drew) (by kernel_rfl) (by kernel_rfl) (by kernel_rfl) (by kernel_rfl) rfl ?_
        (try simp only [List.append_eq, List.cons_append, List.nil_append, List.toList_toArray, List.take_succ_cons, List.take_zero, List.drop_succ_cons, List.drop_zero])
        refine PlanS.turn (v := .slice (some ⟨W0.heap.size, 0, none⟩) 0 0) rfl ?_ ?_
        · intro l W hS h0 he hc
          have h3 : l 3 = false := by
            cases h3 : l 3 with
            | false => rfl
            | true =>
              have hh := hc 3 _ rfl h3 _ (Array.mem_of_getElem? (i := 0) rfl) rfl
              exact absurd (h0.symm.trans hh) (by decide)
          obtain rfl : W = W0.drew := by simpa [h0, h3] using hS
          refine ⟨W0.drew.alloc (.cells #[] 3), ?_, by simp [h0, h3]⟩
          have qb := run_build0 W0.drew
          unfold execOp
          simp only [Sem.run_bind, Sem.run_pure, List.map_toArray, List.map_nil, qb, Result.andThen_ok]
          rfl
        (try simp only [Act.put, List.setIfInBounds_toArray, List.set_cons_zero, List.set_cons_succ])
        (refine PlanS.val (v := ?_) ?_ ?_ ?_ ?_; rotate_left; (· (intro l; simp)); (· rfl); (· (intro l W hS he; obtain ⟨bc3, bc4⟩ := HC.out l W hS; clear hS he; go_simp; all_goals (first | (with_reducible rfl) | (constructor <;> (with_reducible rfl))))); (try simp only [Act.put, List.setIfInBounds_toArray, List.set_cons_zero, List.set_cons_succ]))
        (refine PlanS.val (v := ?_) ?_ ?_ ?_ ?_; rotate_left; (· (intro l; simp)); (· rfl); (· (intro l W hS he; obtain ⟨bc3, bc4⟩ := HC.out l W hS; clear hS he; go_simp; all_goals (first | (with_reducible rfl) | (constructor <;> (with_reducible rfl))))); (try simp only [Act.put, List.setIfInBounds_toArray, List.set_cons_zero, List.set_cons_succ]))
        refine PlanS.turn (v := v2) rfl ?_ ?_
        · intro l W hS h3 he hc
          have h0 : l 0 = true := he _ (Array.mem_of_getElem? (i := 0) rfl) rfl
          obtain rfl : W = W0.drew.alloc (.cells #[] 3) := by simpa [h0, h3] using hS
          refine ⟨W2, ?_, by simp⟩
          unfold execOp
          simp only [resolve, invoke, builtin, Sem.run_bind, Sem.run_pure, Result.andThen_ok, List.map_toArray, List.map_cons, List.map_nil]
          show ((Builtin.append_ #[22, 22] 22 #[.slice (some ⟨W0.heap.size, 0, none⟩) 0 0, .slice (some ⟨g, o, none⟩) nf cf]).run Tryd.prog (W0.drew.alloc (.cells #[] 3))).andThen _ = _
          rw [hr]
          rfl
        (try simp only [Act.put, List.setIfInBounds_toArray, List.set_cons_zero, List.set_cons_succ])
        (refine PlanS.val (v := ?_) ?_ ?_ ?_ ?_; rotate_left; (· (intro l; simp)); (· rfl); (· (intro l W hS he; obtain ⟨bc3, bc4⟩ := HC.out l W hS; clear hS he; go_simp; all_goals (first | (with_reducible rfl) | (constructor <;> (with_reducible rfl))))); (try simp only [Act.put, List.setIfInBounds_toArray, List.set_cons_zero, List.set_cons_succ]))
        (refine PlanS.val (v := ?_) ?_ ?_ ?_ ?_; rotate_left; (· (intro l; simp)); (· rfl); (· (intro l W hS he; obtain ⟨bc3, bc4⟩ := HC.out l W hS; clear hS he; go_simp; all_goals (first | (with_reducible rfl) | (constructor <;> (with_reducible rfl))))); (try simp only [Act.put, List.setIfInBounds_toArray, List.set_cons_zero, List.set_cons_succ]))
        refine PlanS.done ?_
        intro U hU
        obtain rfl : U = W2 := by simpa using hU
        clear hU
        go_wp2_with fail
        refine (HE.out U).mono ?_
        rintro _ U2 ⟨v3, rfl, h3, hb3⟩
        have HB3 := Lib.hid (Below.trans HQ.out.2.1 (hb3.mono HQ.out.2.1.size))
        have HO3 := Lib.hid (own_below HQ.out.2.2 hb3)
        have H3 := Lib.hid h3
        obtain ⟨p3, c3, rfl⟩ := h3.form
        obtain ⟨p2, c2, rfl⟩ := own_form HO3.out
        clear hb3 h3
        have hs3 : W0.heap.size ≤ U2.heap.size := HB3.out.size
        go_wp2_with (at_builtin; refine wpList_append_o _ rfl _ _ 22 rfl 3 i0 (.int .i64 0) 8 Tryd.underlying22 hi hz0i hz1i hz2i rfl W0.heap.size hs3 fl _ rfl ?c1 el _ rfl H3.out ?c2 ?c3 ?_)
        case c1 => exact hnf ▸ HO3.out
        case c2 => unfold maxLen; omega
        case c3 => omega
        intro v4 U4 h4 hg4
        have HG := Lib.hid (show Below W0.heap.size W0 U4 from Below.grown HB3.out hg4 hs3 (fun k hk => (HO3.out.lt k hk).1))
        have h4 : U4.ownsRow W0.heap.size 3 1 v4 (fl ++ el).length ((fl ++ el).flatMap nE) := by rw [List.length_append, List.flatMap_append, hnf, hz0]; exact h4
        have hw0 : w.heap.size ≤ W0.heap.size := by have := hBw.size; omega
        have HZ := Lib.hid (show MineI w.heap.size v4 PL U4 from ⟨HF.out rfl ▸ own_low h4 hw0⟩)
        have HY := Lib.hid (show Below w.heap.size w U4 from (hBw.trans (hB0.mono hBw.size)).trans (HG.out.mono hw0))
        clear h4 hg4
        go_wp2
        go_ret2
        exact ⟨v4, rfl, HZ.out, HY.out⟩
    · have hk8 : k = 34 := by omega
      subst hk8
      exact (HM.out HN.out).elim
end Go.Proofs.YtcplegelppfdeaaDoor
