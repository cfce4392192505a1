/-
  Layer 6's document: the tokens of a text.
-/
import Derived.Test.YtbnmibkmddhniaaDoorRef3
import Derived.Test.YtbnmibkmddhniaaDoorLines
set_option linter.unusedSimpArgs false
set_option linter.unusedVariables false
namespace Go.Proofs.YtbnmibkmddhniaaDoor
open Go.RowKit Go.PlainAid

theorem line_c (n : Int) (l : List UInt8) (w : World) : Calls Tryd.prog 17 #[.string (txB l), .int .i64 n] w (LineEnd 34 w (lineD n l)) := by
  by_cases h : 1000 < l.length
  · exact line_long n l h w
  · exact line_short n l (by omega) w
set_option maxRecDepth 100000 in
set_option maxHeartbeats 4000000 in
theorem scanr_c (l : List UInt8) (hl : l.length ≤ 65536) (w : World) : Calls Tryd.prog 9 #[.string (txB l)] w (ScanEnd 34 w (scanD l)) := by
  rw [scanD_short l hl]
  obtain ⟨R, hR⟩ : ∃ R, scanR (linesA [] l) 1 [] = R := ⟨_, rfl⟩
  rw [hR]
  have HR := Lib.hid hR
  have HL := Lib.hid hl
  have HZ := Lib.hid (txB_size l)
  clear hR hl
  generalize hS : txB l = S at *
  have HS := Lib.hid hS
  clear hS
  obtain ⟨i0, hi, hz0, hz1, hz2⟩ := info_parts Tryd.infoR
  go_enter Tryd.func9, Tryd.ntmps9
  go_wp2
  go_loopw [5, 6, 7, 8] (fun v n fr i wr => ∃ (k f : Nat) (acc : List Tk) (K F N : Int), i = .int .i64 K ∧ fr = .int .i64 F ∧ n = .int .i64 N ∧ Hid (K = k ∧ F = f ∧ f ≤ k ∧ acc.length ≤ 2 * f ∧ 1 ≤ N ∧ N ≤ f + 1 ∧ ((k ≤ l.length ∧ scanR (linesA ((l.take k).drop f) (l.drop k)) N acc = R) ∨ (k = l.length + 1 ∧ f = l.length + 1 ∧ R = ⟨acc, 0, 0, 0⟩))) ∧ Hid (wr.ownsRow (w.heap.size + 1) 34 5 v acc.length (cellsT acc)) ∧ wr.cell? ⟨w.heap.size, 0, none⟩ = some (.int .i64 0) ∧ wr.frozen? ⟨w.heap.size, 0, none⟩ = false ∧ wr.cell? ⟨w.heap.size, 1, none⟩ = some (.int .i64 0) ∧ wr.frozen? ⟨w.heap.size, 1, none⟩ = false ∧ Below w.heap.size w wr) (fun v n fr i _ => l.length + 1 - (intOf i).toNat)
  case atStart => exact ⟨0, 0, [], 0, 0, 1, rfl, rfl, rfl, Lib.hid ⟨rfl, rfl, by omega, by simp, by omega, by omega, .inl ⟨by omega, HR.out⟩⟩, Lib.hid (World.ownsRow_nil _ _ _ _), by go_simp, by go_simp, by go_simp, by go_simp, by go_grown⟩
  case round =>
    obtain ⟨k, f, acc, K, F, N, rfl, rfl, rfl, HQ, HO, hz_0, fz_0, hz_1, fz_1, hB⟩ := hrel
    obtain ⟨q1, q2, q3, q4, q5, q6, q7⟩ := HQ.out
    have hz := HZ.out
    have hl := HL.out
    obtain ⟨p, cp, rfl⟩ := own_form HO.out
    have hlz := klt hz_0
    by_cases hle : k ≤ l.length
    · have q8 : scanR (linesA ((l.take k).drop f) (l.drop k)) N acc = R := by
        rcases q7 with h | h
        · exact h.2
        · omega
      clear q7
      have hd0 : decide (K ≤ (S.size : Int)) = true := decide_eq_true (by omega)
      have w3 : IntKind.i64.wrap (K + 1) = K + 1 := IntWalk.i64_in _ (by omega)
      by_cases hon : k < l.length ∧ at8 l k ≠ 10
      · obtain ⟨hlt, h10⟩ := hon
        have hd : decide (K < (S.size : Int)) = true := decide_eq_true (by omega)
        have q := fun W => by have := ix_l l k hlt K q1 W; rw [HS.out] at this; exact this
        have e10 : (bI (at8 l k) != 10) = true := by unfold bne; rw [bI_eq _ 10 10 rfl, beq_eq_false_iff_ne.2 h10]; rfl
        have HN := Lib.hid (show K + 1 = ((k + 1 : Nat) : Int) ∧ F = f ∧ f ≤ k + 1 ∧ acc.length ≤ 2 * f ∧ 1 ≤ N ∧ N ≤ f + 1 ∧ ((k + 1 ≤ l.length ∧ scanR (linesA ((l.take (k + 1)).drop f) (l.drop (k + 1))) N acc = R) ∨ (k + 1 = l.length + 1 ∧ f = l.length + 1 ∧ R = ⟨acc, 0, 0, 0⟩)) from
          ⟨by omega, q2, by omega, q4, q5, q6, .inl ⟨by omega, by rw [← q8, linesA_on l _ k hlt h10, take_drop_snoc l k f hlt q3]⟩⟩)
        have HQ2 := Lib.hid (show K = k ∧ k < l.length from ⟨q1, hlt⟩)
        generalize bI (at8 l k) = c at *
        clear q1 q2 q3 q4 q5 q6 q8 hz hl hle hlt h10 HQ
        go_wp2
        go_roundw
        case rel => exact ⟨k + 1, f, acc, K + 1, F, N, rfl, rfl, rfl, HN, HO, hz_0, fz_0, hz_1, fz_1, hB⟩
        case measure => have h1 := HQ2.out; simp only [intOf]; omega
      · obtain ⟨x, hx⟩ : ∃ x, (l.take k).drop f = x := ⟨_, rfl⟩
        rw [hx] at q8
        have hxl : x.length = k - f := by rw [← hx, List.length_drop, List.length_take]; omega
        have hsl : ∀ W, (Instr.slice 9 (.string S) (some (.int .i64 F)) (some (.int .i64 K)) none).run Tryd.prog W = .ok (.string (txB x)) W := fun W => by
          rw [← HS.out, run_slice_string _ _ _ _ _ _ _ Tryd.underlying9 (by omega) (by omega) (by rw [txB_size]; omega), q1, q2, Int.toNat_natCast, Int.toNat_natCast, txB_extract, hx]
        have hol := lineD_len N x
        have hoe := lineD_nil N x
        have hLn := Lib.hid (fun W => line_c N x W)
        have hnext : (lineD N x).e = 0 → ((k + 1 ≤ l.length ∧ scanR (linesA ((l.take (k + 1)).drop (k + 1)) (l.drop (k + 1))) (N + 1) (acc ++ (lineD N x).l) = R) ∨ (k + 1 = l.length + 1 ∧ k + 1 = l.length + 1 ∧ R = ⟨acc ++ (lineD N x).l, 0, 0, 0⟩)) := fun he => by
          by_cases hlt : k < l.length
          · left
            refine ⟨by omega, ?_⟩
            have h10 : at8 l k = 10 := Classical.byContradiction fun h => hon ⟨hlt, h⟩
            rw [← q8, linesA_feed l x k hlt h10, scanR_on x _ N acc he, take_drop_self]
          · right
            refine ⟨by omega, by omega, ?_⟩
            rw [← q8, linesA_end l x k (by omega), scanR_on x _ N acc he]
            rfl
        have herr : (lineD N x).e ≠ 0 → R = ⟨[], N, (lineD N x).col, (lineD N x).e⟩ := fun he => by
          by_cases hlt : k < l.length
          · have h10 : at8 l k = 10 := Classical.byContradiction fun h => hon ⟨hlt, h⟩
            rw [← q8, linesA_feed l x k hlt h10, scanR_err x _ N acc he]
          · rw [← q8, linesA_end l x k (by omega), scanR_err x _ N acc he]
        have hguard : (decide (K < (S.size : Int)) = true ∧ (∀ W, (Instr.index 9 (.string S) (.int .i64 K)).run Tryd.prog W = .ok (.int .u8 10) W)) ∨ decide (K < (S.size : Int)) = false := by
          by_cases hlt : k < l.length
          · left
            have h10 : at8 l k = 10 := Classical.byContradiction fun h => hon ⟨hlt, h⟩
            refine ⟨decide_eq_true (by omega), fun W => ?_⟩
            have := ix_l l k hlt K q1 W
            rw [HS.out, h10] at this
            exact this
          · exact .inr (decide_eq_false (by omega))
        have w4 : IntKind.i64.wrap (N + 1) = N + 1 := IntWalk.i64_in _ (by omega)
        generalize lineD N x = o at *
        obtain ⟨oL, oli, oc, oe⟩ := o
        dsimp only at hol hoe hnext herr
        unfold LineEnd at hLn
        dsimp only at hLn
        have HQ2 := Lib.hid (show K = k ∧ k ≤ l.length ∧ oL.length ≤ k + 1 - f ∧ acc.length ≤ 2 * f ∧ f ≤ k ∧ l.length ≤ 65536 ∧ 1 ≤ N ∧ N ≤ f + 1 from ⟨q1, hle, by omega, q4, q3, hl, q5, q6⟩)
        have HB := Lib.hid hB
        have hbr : Below wr.heap.size wr wr := Below.refl _ _
        have hnr := hB.size
        by_cases hE : oe = 0
        · subst hE
          have HN := Lib.hid (hnext rfl)
          clear hnext herr hoe hol hxl hx q1 q2 q3 q4 q5 q6 q8 hz hl hle hon HQ hB
          rcases hguard with ⟨hd, q⟩ | hd
          all_goals
            skip
            go_wp2_with fail
            ((with_reducible refine (hLn.out _).mono ?_); rintro _ q1 ⟨v, rfl, hown, hb⟩)
            have hs_q1 := Lib.hid hb
            have T : q1.cell? ⟨w.heap.size, 0, none⟩ = some (.int .i64 0) ∧ q1.frozen? ⟨w.heap.size, 0, none⟩ = false ∧ q1.cell? ⟨w.heap.size, 1, none⟩ = some (.int .i64 0) ∧ q1.frozen? ⟨w.heap.size, 1, none⟩ = false := by
                refine ⟨?_, ?_, ?_, ?_⟩ <;> first | (refine kc hb ?_ <;> (go_simp; first | done | rfl)) | (refine kfz hb ?_ ?_ <;> first | (go_size; done) | (go_simp; done))
            have hz := hb.size
            (try simp only [World.size_alloc, World.size_setCell, World.size_drew] at hz)
            have hlz' : w.heap.size < q1.heap.size := by omega
            have hB' : Below wr.heap.size wr q1 := by
                refine kb ?_ hb
                go_grown
            clear hb hz
            obtain ⟨hz_0, fz_0, hz_1, fz_1⟩ := T
            have hlz := hlz'; clear hlz'
            have hnz0 : ¬ (w.heap.size = q1.heap.size) := by omega
            have hnz1 : ¬ (w.heap.size = q1.heap.size + 1) := by omega
            have hkz1 : w.heap.size < q1.heap.size + 1 := by omega
            have hnz2 : ¬ (w.heap.size = q1.heap.size + 1 + 1) := by omega
            have hkz2 : w.heap.size < q1.heap.size + 1 + 1 := by omega
            have hB := hB'; clear hB'
            have hsz := hB.size
            have HV := Lib.hid hown
            have HO2 := Lib.hid (own_below HO.out hB)
            clear hown
            go_wp2_with (at_builtin; refine wpList_append_row rfl _ _ 29 rfl (w.heap.size + 1) 34 i0 _ 5 48 Tryd.underlying29 hi hz0 hz1 hz2 rfl (by decide) _ acc.length _ rfl HO2.out _ v oL.length _ rfl HV.out ?NM1 ?NM2 ?NM3 ?NM4 ?_)
            case NM1 => exact cellsT_one_cell _
            case NM2 => have := HQ2.out; unfold maxLen; omega
            case NM3 => have := HQ2.out; omega
            case NM4 => have := HB.out.size; have := hsz; omega
            intro v' w' hown' hg
            have hBw : Below w.heap.size w w' := Below.grown (HB.out.trans (Below.mono hB HB.out.size)) hg (by have := HB.out.size; have := hsz; omega) (fun k hk => by have := (HO2.out.lt k hk).1; omega)
            have T : w'.cell? ⟨w.heap.size, 0, none⟩ = some (.int .i64 0) ∧ w'.frozen? ⟨w.heap.size, 0, none⟩ = false ∧ w'.cell? ⟨w.heap.size, 1, none⟩ = some (.int .i64 0) ∧ w'.frozen? ⟨w.heap.size, 1, none⟩ = false :=
              ⟨grown_cell HO2.out hg (by omega) hz_0, grown_frozen HO2.out hg (by omega) (klt hz_0) fz_0, grown_cell HO2.out hg (by omega) hz_1, grown_frozen HO2.out hg (by omega) (klt hz_1) fz_1⟩
            have HO' : Hid (w'.ownsRow (w.heap.size + 1) 34 5 v' (acc ++ oL).length (cellsT (acc ++ oL))) := Lib.hid (by rw [List.length_append, cellsT_append]; exact hown')
            clear hown' hg hz_0 fz_0 hz_1 fz_1
            obtain ⟨hz_0, fz_0, hz_1, fz_1⟩ := T
            go_wp2
            go_roundw
            case rel =>
              have hq := HQ2.out
              exact ⟨k + 1, k + 1, acc ++ oL, K + 1, K + 1, N + 1, rfl, rfl, rfl, Lib.hid ⟨by omega, by omega, by omega, by rw [List.length_append]; omega, by omega, by omega, HN.out⟩, HO', hz_0, fz_0, hz_1, fz_1, hBw⟩
            case measure => have h1 := HQ2.out; simp only [intOf]; omega
        · obtain rfl := hoe hE
          have HF := Lib.hid (herr hE)
          have he2 : (oe != 0) = true := by simp [bne, hE]
          clear hnext herr hoe hol hxl hx q1 q2 q3 q4 q5 q6 q8 hz hl hle hon HQ hB hE
          rcases hguard with ⟨hd, q⟩ | hd
          all_goals
            skip
            go_wp2_with fail
            ((with_reducible refine (hLn.out _).mono ?_); rintro _ q1 ⟨v, rfl, hown, hb⟩)
            have hs_q1 := Lib.hid hb
            have T : q1.cell? ⟨w.heap.size, 0, none⟩ = some (.int .i64 0) ∧ q1.frozen? ⟨w.heap.size, 0, none⟩ = false ∧ q1.cell? ⟨w.heap.size, 1, none⟩ = some (.int .i64 0) ∧ q1.frozen? ⟨w.heap.size, 1, none⟩ = false := by
                refine ⟨?_, ?_, ?_, ?_⟩ <;> first | (refine kc hb ?_ <;> (go_simp; first | done | rfl)) | (refine kfz hb ?_ ?_ <;> first | (go_size; done) | (go_simp; done))
            have hz := hb.size
            (try simp only [World.size_alloc, World.size_setCell, World.size_drew] at hz)
            have hlz' : w.heap.size < q1.heap.size := by omega
            have hB' : Below wr.heap.size wr q1 := by
                refine kb ?_ hb
                go_grown
            clear hb hz
            obtain ⟨hz_0, fz_0, hz_1, fz_1⟩ := T
            have hlz := hlz'; clear hlz'
            have hnz0 : ¬ (w.heap.size = q1.heap.size) := by omega
            have hnz1 : ¬ (w.heap.size = q1.heap.size + 1) := by omega
            have hkz1 : w.heap.size < q1.heap.size + 1 := by omega
            have hnz2 : ¬ (w.heap.size = q1.heap.size + 1 + 1) := by omega
            have hkz2 : w.heap.size < q1.heap.size + 1 + 1 := by omega
            have hB := hB'; clear hB'
            have hsz := hB.size
            clear hown
            go_wp2
            refine bodyPost_ret (v := .tuple #[.slice none 0 0, .agg #[.int .i64 N, .int .i64 oc], .int .i64 oe]) (by simp [results, Tryd.results9, go_sem, hz_0, hz_1] <;> first | done | rfl) rfl (by rw [HF.out]; exact scanEnd_nil (((HB.out.trans (Below.mono hB HB.out.size)).setCell (by dsimp only; omega) _).setCell (by dsimp only; omega) _))
    · have hd0 : decide (K ≤ (S.size : Int)) = false := decide_eq_false (by omega)
      have HF := Lib.hid (show R = ⟨acc, 0, 0, 0⟩ from by
        rcases q7 with h | h
        · omega
        · exact h.2.2)
      clear q1 q2 q3 q4 q5 q6 q7 hz hl hle HQ
      go_wp2
      refine bodyPost_ret (v := .tuple #[.slice p acc.length cp, .agg #[.int .i64 0, .int .i64 0], .int .i64 0]) (by simp [results, Tryd.results9, go_sem, hz_0, hz_1] <;> first | done | rfl) rfl ⟨_, by rw [HF.out], by rw [HF.out]; exact own_low (own_other (own_other HO.out (by dsimp only; omega)) (by dsimp only; omega)) (by omega), (hB.setCell (by dsimp only; omega) _).setCell (by dsimp only; omega) _⟩
end Go.Proofs.YtbnmibkmddhniaaDoor
