/-
  Layer 6's document: the tokens of a line.
-/
import Derived.Test.YtbnmibkmddhniaaDoorRef2
set_option linter.unusedSimpArgs false
set_option linter.unusedVariables false
namespace Go.Proofs.YtbnmibkmddhniaaDoor
open Go.RowKit Go.PlainAid

theorem Tryd.infoR : (Tryd.prog.info? 34).map (fun i => (i.zero, i.size, i.bytes)) = some (some (.agg #[.int .i64 0, .string ⟨#[]⟩, .int .i64 0, .int .i64 0, .int .i64 0]), 5, 48) := by kernel_rfl
/-- A call answers: the slice of tokens, the column, the error. -/
def LineEnd (T : TypeId) (w : World) (o : Out) : Ending → World → Prop := fun e w' =>
  ∃ v, e = .returned (.tuple #[v, .int .i64 o.col, .int .i64 o.e]) ∧ w'.ownsRow w.heap.size T 5 v o.l.length (cellsT o.l) ∧ Below w.heap.size w w'
theorem lineEnd_nil {T : TypeId} {w w' : World} {L C E : Int} (h : Below w.heap.size w w') : LineEnd T w ⟨[], L, C, E⟩ (.returned (.tuple #[.slice none 0 0, .int .i64 C, .int .i64 E])) w' :=
  ⟨_, rfl, World.ownsRow_nil _ _ _ _, h⟩
theorem blank_ways (b : UInt8) : isBlank b = ((bI b == 32) || (bI b == 9)) := by
  unfold isBlank
  rw [bI_eq b 32 32 rfl, bI_eq b 9 9 rfl]
set_option maxRecDepth 100000 in
set_option maxHeartbeats 1000000 in
theorem line_long (n : Int) (l : List UInt8) (h : 1000 < l.length) (w : World) : Calls Tryd.prog 17 #[.string (txB l), .int .i64 n] w (LineEnd 34 w (lineD n l)) := by
  have hd : decide ((1000 : Int) < ((txB l).size : Int)) = true := decide_eq_true (by rw [txB_size]; omega)
  have e : lineD n l = ⟨[], n, 1001, 12⟩ := by unfold lineD; rw [if_pos h]
  rw [e]
  clear h e
  generalize txB l = S at *
  go_enter Tryd.func17, Tryd.ntmps17
  go_wp2
  refine bodyPost_ret (v := .tuple #[.slice none 0 0, .int .i64 1001, .int .i64 12]) (by simp [results, Tryd.results17, go_sem]) rfl (lineEnd_nil (by go_grown))
set_option maxRecDepth 100000 in
set_option maxHeartbeats 4000000 in
theorem line_short (n : Int) (l : List UInt8) (h : l.length ≤ 1000) (w : World) : Calls Tryd.prog 17 #[.string (txB l), .int .i64 n] w (LineEnd 34 w (lineD n l)) := by
  have hd : decide ((1000 : Int) < ((txB l).size : Int)) = false := decide_eq_false (by rw [txB_size]; omega)
  obtain ⟨R, hR⟩ : ∃ R, lineD n l = R := ⟨_, rfl⟩
  rw [hR]
  have HR := Lib.hid (show toksR n l l.length 0 0 [] = R from by rw [← hR]; unfold lineD; rw [if_neg (by omega)])
  have HL := Lib.hid h
  have HZ := Lib.hid (txB_size l)
  clear hR h
  generalize hS : txB l = S at *
  have HS := Lib.hid hS
  clear hS
  obtain ⟨i0, hi, hz0, hz1, hz2⟩ := info_parts Tryd.infoR
  go_enter Tryd.func17, Tryd.ntmps17
  go_wp2
  go_loopw [7, 8, 9] (fun v i b wr => ∃ (k last f : Nat) (acc : List Tk) (K L : Int), i = .int .i64 K ∧ b = .int .i64 L ∧ Hid (K = k ∧ L = last ∧ k ≤ l.length ∧ last ≤ l.length ∧ acc.length ≤ k ∧ l.length ≤ k + f ∧ toksR n l f k last acc = R) ∧ Hid (wr.ownsRow w.heap.size 34 5 v acc.length (cellsT acc)) ∧ Below w.heap.size w wr) (fun v i b _ => l.length - (intOf i).toNat)
  case atStart => exact ⟨0, 0, l.length, [], 0, 0, rfl, rfl, Lib.hid ⟨rfl, rfl, by omega, by omega, by simp, by omega, HR.out⟩, Lib.hid (World.ownsRow_nil _ _ _ _), by go_grown⟩
  case round =>
    obtain ⟨k, last, f, acc, K, L, rfl, rfl, HQ, HO, hB⟩ := hrel
    obtain ⟨q1, q2, q3, q4, q5, q6, q7⟩ := HQ.out
    have hz := HZ.out
    have HQ2 := Lib.hid (show L = last ∧ last ≤ 1000 ∧ acc.length ≤ 1000 from ⟨q2, by have := HL.out; omega, by have := HL.out; omega⟩)
    by_cases hlt : k < l.length
    · have hd : decide (K < (S.size : Int)) = true := decide_eq_true (by omega)
      have q := fun W => by have := ix_l l k hlt K q1 W; rw [HS.out] at this; exact this
      by_cases h35 : at8 l k = 35
      · have HT := Lib.hid (show endT n last acc = R from by rw [← q7, toksR_remark n l f k last acc hlt h35])
        rw [h35, show bI 35 = 35 from rfl] at q
        clear q1 q2 q3 q4 q5 q6 q7 hz hlt h35
        have w4 : IntKind.i64.wrap (L + 1) = L + 1 := IntWalk.i64_in _ (by have := HQ2.out; omega)
        by_cases ha0 : acc = []
        · subst ha0
          have HF := Lib.hid (show R = ⟨[], 0, 0, 0⟩ from by rw [← HT.out]; rfl)
          obtain ⟨p, cp, rfl⟩ := own_form HO.out
          clear HT HQ
          go_wp2
          refine bodyPost_ret (v := .tuple #[.slice p 0 cp, .int .i64 0, .int .i64 0]) (by simp [results, Tryd.results17, go_sem]) rfl ⟨_, by rw [HF.out], by rw [HF.out]; exact HO.out, hB⟩
        · have HF := Lib.hid (show R = ⟨acc ++ [⟨4, [], 0, n, (last : Int) + 1⟩], 0, 0, 0⟩ from by rw [← HT.out]; unfold endT; rw [if_neg ha0])
          have c2 : 0 < acc.length := List.length_pos_iff.2 ha0
          obtain ⟨p, cp, rfl⟩ := own_form HO.out
          have HA := Lib.hid (own_below HO.out ((Below.refl _ wr).alloc (Nat.le_refl _) (.cells #[.int .i64 4, .string ⟨#[]⟩, .int .i64 0, .int .i64 n, .int .i64 (L + 1)] 34)))
          clear HT ha0
          go_wp2_with (at_builtin; refine wpList_append_own _ rfl _ _ 29 rfl w.heap.size 34 i0 _ 5 48 Tryd.underlying29 hi hz0 hz1 hz2 rfl (by decide) _ acc.length _ rfl HA.out ⟨wr.heap.size, 0, none⟩ 1 1 (cellsT [⟨4, [], 0, n, L + 1⟩]) rfl rfl ?d1 ?d2 ?d3 ?d4 ?d5 ?_)
          case d1 => exact cells5_at (W := wr) 34 ⟨4, [], 0, n, L + 1⟩
          case d2 => exact cellsT_one_cell _
          case d3 => have := HQ2.out; unfold maxLen; omega
          case d4 => have := HQ2.out; omega
          case d5 => have := hB.size; simp; omega
          intro v' w' hown' hg _
          have hBw : Below w.heap.size w w' := Below.grown (hB.trans ((Below.refl _ wr).alloc hB.size _)) hg (by have := hB.size; simp; omega) (fun k hk => (HA.out.lt k hk).1)
          have HO' : Hid (w'.ownsRow w.heap.size 34 5 v' R.l.length (cellsT R.l)) := Lib.hid (by rw [HF.out]; dsimp only; rw [List.length_append, cellsT_append, ← HQ2.out.1]; exact hown')
          clear hown' hg
          go_wp2
          refine bodyPost_ret (v := .tuple #[v', .int .i64 0, .int .i64 0]) (by simp [results, Tryd.results17, go_sem]) rfl ⟨_, by rw [HF.out], HO'.out, hBw⟩
      · obtain ⟨f, rfl⟩ : ∃ f', f = f' + 1 := ⟨f - 1, by omega⟩
        have e35 : (bI (at8 l k) != 35) = true := by unfold bne; rw [bI_eq _ 35 35 rfl, beq_eq_false_iff_ne.2 h35]; rfl
        have hbw := blank_ways (at8 l k)
        cases hbl : isBlank (at8 l k)
        · have hof := Lib.hid (one_c l (by have := HL.out; omega) k hlt)
          have g1 := toksR_err n l f k last acc hlt h35 hbl
          have g2 := toksR_tok n l f k last acc hlt h35 hbl
          have g3 := oneD_len (l.drop k)
          rw [List.length_drop] at g3
          rw [hbl] at hbw
          obtain ⟨e9, e10⟩ : (bI (at8 l k) == 32) = false ∧ (bI (at8 l k) == 9) = false := by
            have := hbw.symm
            simpa using this
          rw [HS.out] at hof
          generalize oneD (l.drop k) = o at *
          obtain ⟨ok, ot, on, ol, oe⟩ := o
          unfold oneV at hof
          dsimp only at g1 g2 g3 hof
          rw [← q1] at hof
          have w3 : IntKind.i64.wrap (K + 1) = K + 1 := IntWalk.i64_in _ (by have := HL.out; omega)
          by_cases hoe : oe = 0
          · subst hoe
            rw [if_pos rfl] at hof
            have HN := Lib.hid (show K + (ol : Int) = ((k + ol : Nat) : Int) ∧ k + ol ≤ l.length ∧ acc.length + 1 ≤ k + ol ∧ l.length ≤ (k + ol) + f ∧ toksR n l f (k + ol) (k + ol) (acc ++ [⟨ok, ot, on, n, K + 1⟩]) = R ∧ k < k + ol from ⟨by omega, by have := g3 rfl; omega, by have := g3 rfl; omega, by have := g3 rfl; omega, by rw [← q7, g2 rfl, q1], by have := g3 rfl; omega⟩)
            have HQ3 := Lib.hid (show K = k ∧ k < l.length from ⟨q1, hlt⟩)
            generalize bI (at8 l k) = c at *
            obtain ⟨TI, hTI⟩ : ∃ TI, TI = K + (ol : Int) := ⟨_, rfl⟩
            rw [← hTI] at hof
            have HTI := Lib.hid hTI
            clear hbl h35 q1 q2 q3 q4 q5 q6 q7 hz hlt g1 g2 g3 hTI hbw
            obtain ⟨p, cp, rfl⟩ := own_form HO.out
            have HB := Lib.hid hB
            clear hB HQ
            have hbr : Below wr.heap.size wr wr := Below.refl _ _
            go_wp2_with fail
            ((with_reducible refine (hof.out _).mono ?_); rintro _ q1 ⟨rfl, hb⟩)
            have hz := hb.size
            (try simp only [World.size_alloc, World.size_setCell, World.size_drew] at hz)
            have hB' : Below wr.heap.size wr q1 := by
                refine kb ?_ hb
                go_grown
            clear hb hz
            have hB := hB'; clear hB'
            have hsz := hB.size
            go_wp2_with (at_builtin; refine wpList_append_own _ rfl _ _ 29 rfl w.heap.size 34 i0 _ 5 48 Tryd.underlying29 hi hz0 hz1 hz2 rfl (by decide) _ acc.length _ rfl (own_below HO.out ?b0) ⟨q1.heap.size + 1, 0, none⟩ 1 1 (cellsT [⟨ok, ot, on, n, K + 1⟩]) rfl rfl ?b1 ?b2 ?b3 ?b4 ?b5 ?_)
            case b0 => go_grown
            case b1 =>
              intro j u hu
              have h := cells5_at (W := q1.alloc (.cells #[.int .i64 ok, .string (txB ot), .int .i64 on, .int .i64 n, .int .i64 (K + 1)] 34)) 34 ⟨ok, ot, on, n, K + 1⟩ j u hu
              rw [World.size_alloc] at h
              exact h
            case b2 => exact cellsT_one_cell _
            case b3 => have h1 := HN.out.2.1; have h2 := HN.out.2.2.1; have := HL.out; unfold maxLen; omega
            case b4 => have h1 := HN.out.2.1; have h2 := HN.out.2.2.1; have := HL.out; omega
            case b5 => have := HB.out.size; have := hsz; simp; omega
            intro v' w' hown' hg _
            have hBw : Below w.heap.size w w' := Below.grown (HB.out.trans (Below.mono (by go_grown : Below wr.heap.size wr _) HB.out.size)) hg (by have := HB.out.size; have := hsz; simp; omega) (fun k hk => (HO.out.lt k hk).1)
            have HO' : Hid (w'.ownsRow w.heap.size 34 5 v' (acc ++ [Tk.mk ok ot on n (K + 1)]).length (cellsT (acc ++ [Tk.mk ok ot on n (K + 1)]))) := Lib.hid (by rw [List.length_append, cellsT_append]; exact hown')
            clear hown' hg
            go_wp2
            go_roundw
            case rel => exact ⟨k + ol, k + ol, f, acc ++ [Tk.mk ok ot on n (K + 1)], TI, TI, rfl, rfl, Lib.hid ⟨HTI.out.trans HN.out.1, HTI.out.trans HN.out.1, HN.out.2.1, HN.out.2.1, by rw [List.length_append]; exact HN.out.2.2.1, HN.out.2.2.2.1, HN.out.2.2.2.2.1⟩, HO', hBw⟩
            case measure => have h1 := HTI.out; have h2 := HN.out.1; have h3 := HN.out.2.2.2.2.2; have h4 := HQ3.out.1; have h5 := HQ3.out.2; simp only [intOf]; omega
          · rw [if_neg hoe] at hof
            have HF := Lib.hid (show R = ⟨[], n, K + 1, oe⟩ from by rw [← q7, g1 hoe, q1])
            have he2 : (oe != 0) = true := by simp [bne, hoe]
            generalize bI (at8 l k) = c at *
            clear hbl h35 q1 q2 q3 q4 q5 q6 q7 hz hlt g1 g2 g3 hbw hoe
            have HB := Lib.hid hB
            clear hB HQ
            have hbr : Below wr.heap.size wr wr := Below.refl _ _
            go_wp2_with fail
            ((with_reducible refine (hof.out _).mono ?_); rintro _ q1 ⟨rfl, hb⟩)
            have hz := hb.size
            (try simp only [World.size_alloc, World.size_setCell, World.size_drew] at hz)
            have hB' : Below wr.heap.size wr q1 := by
                refine kb ?_ hb
                go_grown
            clear hb hz
            have hB := hB'; clear hB'
            have hsz := hB.size
            go_wp2
            refine bodyPost_ret (v := .tuple #[.slice none 0 0, .int .i64 (K + 1), .int .i64 oe]) (by simp [results, Tryd.results17, go_sem]) rfl (by rw [HF.out]; exact lineEnd_nil (HB.out.trans (Below.mono (by go_grown : Below wr.heap.size wr _) HB.out.size)))
        · have HN := Lib.hid (show K + 1 = ((k + 1 : Nat) : Int) ∧ k + 1 ≤ l.length ∧ acc.length ≤ k + 1 ∧ l.length ≤ (k + 1) + f ∧ toksR n l f (k + 1) last acc = R from ⟨by omega, by omega, by omega, by omega, by rw [← q7, toksR_blank n l f k last acc hlt h35 hbl]⟩)
          rw [hbl] at hbw
          have w3 : IntKind.i64.wrap (K + 1) = K + 1 := IntWalk.i64_in _ (by have := HL.out; omega)
          generalize bI (at8 l k) = c at *
          have HQ3 := Lib.hid (show L = last ∧ last ≤ l.length from ⟨q2, q4⟩)
          clear hbl h35 q1 q2 q3 q4 q5 q6 q7 hz hlt
          cases e9 : (c == 32)
          · have e10 : (c == 9) = true := by rw [e9] at hbw; exact hbw.symm
            clear hbw
            go_wp2
            go_roundw
            case rel => exact ⟨k + 1, last, f, acc, K + 1, L, rfl, rfl, Lib.hid ⟨HN.out.1, HQ3.out.1, HN.out.2.1, HQ3.out.2, HN.out.2.2.1, HN.out.2.2.2.1, HN.out.2.2.2.2⟩, HO, hB⟩
            case measure => have h1 := HN.out.1; have h2 := HN.out.2.1; simp only [intOf]; omega
          · clear hbw
            go_wp2
            go_roundw
            case rel => exact ⟨k + 1, last, f, acc, K + 1, L, rfl, rfl, Lib.hid ⟨HN.out.1, HQ3.out.1, HN.out.2.1, HQ3.out.2, HN.out.2.2.1, HN.out.2.2.2.1, HN.out.2.2.2.2⟩, HO, hB⟩
            case measure => have h1 := HN.out.1; have h2 := HN.out.2.1; simp only [intOf]; omega
    · have hd : decide (K < (S.size : Int)) = false := decide_eq_false (by omega)
      have HT := Lib.hid (show endT n last acc = R from by rw [← q7, toksR_end n l f k last acc (by omega)])
      clear q1 q2 q3 q4 q5 q6 q7 hz hlt
      have w4 : IntKind.i64.wrap (L + 1) = L + 1 := IntWalk.i64_in _ (by have := HQ2.out; omega)
      by_cases ha0 : acc = []
      · subst ha0
        have HF := Lib.hid (show R = ⟨[], 0, 0, 0⟩ from by rw [← HT.out]; rfl)
        obtain ⟨p, cp, rfl⟩ := own_form HO.out
        clear HT HQ
        go_wp2
        refine bodyPost_ret (v := .tuple #[.slice p 0 cp, .int .i64 0, .int .i64 0]) (by simp [results, Tryd.results17, go_sem]) rfl ⟨_, by rw [HF.out], by rw [HF.out]; exact HO.out, hB⟩
      · have HF := Lib.hid (show R = ⟨acc ++ [⟨4, [], 0, n, (last : Int) + 1⟩], 0, 0, 0⟩ from by rw [← HT.out]; unfold endT; rw [if_neg ha0])
        have c2 : 0 < acc.length := List.length_pos_iff.2 ha0
        obtain ⟨p, cp, rfl⟩ := own_form HO.out
        have HA := Lib.hid (own_below HO.out ((Below.refl _ wr).alloc (Nat.le_refl _) (.cells #[.int .i64 4, .string ⟨#[]⟩, .int .i64 0, .int .i64 n, .int .i64 (L + 1)] 34)))
        clear HT ha0
        go_wp2_with (at_builtin; refine wpList_append_own _ rfl _ _ 29 rfl w.heap.size 34 i0 _ 5 48 Tryd.underlying29 hi hz0 hz1 hz2 rfl (by decide) _ acc.length _ rfl HA.out ⟨wr.heap.size, 0, none⟩ 1 1 (cellsT [⟨4, [], 0, n, L + 1⟩]) rfl rfl ?c1 ?c2 ?c3 ?c4 ?c5 ?_)
        case c1 => exact cells5_at (W := wr) 34 ⟨4, [], 0, n, L + 1⟩
        case c2 => exact cellsT_one_cell _
        case c3 => have := HQ2.out; unfold maxLen; omega
        case c4 => have := HQ2.out; omega
        case c5 => have := hB.size; simp; omega
        intro v' w' hown' hg _
        have hBw : Below w.heap.size w w' := Below.grown (hB.trans ((Below.refl _ wr).alloc hB.size _)) hg (by have := hB.size; simp; omega) (fun k hk => (HA.out.lt k hk).1)
        have HO' : Hid (w'.ownsRow w.heap.size 34 5 v' R.l.length (cellsT R.l)) := Lib.hid (by rw [HF.out]; dsimp only; rw [List.length_append, cellsT_append, ← HQ2.out.1]; exact hown')
        clear hown' hg
        go_wp2
        refine bodyPost_ret (v := .tuple #[v', .int .i64 0, .int .i64 0]) (by simp [results, Tryd.results17, go_sem]) rfl ⟨_, by rw [HF.out], HO'.out, hBw⟩
end Go.Proofs.YtbnmibkmddhniaaDoor
