/- Layer 6's document: the -/
import Derived.Test.YtjcmblbnbpikfaaGreatDoorRef2
import Derived.Test.YtjcmblbnbpikfaaGreatDoorLines
set_option linter.unusedSimpArgs false
set_option linter.unusedVariables false
set_option maxRecDepth 100000
namespace Go.Proofs.YtjcmblbnbpikfaaGreatDoor
open Lib (hid)
open Go.RowKit Go.PlainAid

theorem Tryz.infoR : (Tryz.prog.info? 93).map (fun i => (i.zero, i.size, i.bytes)) = some (some (.agg #[.int .i64 0, .string ⟨#[]⟩, .int .i64 0, .int .i64 0, .int .i64 0]), 5, 48) := by kernel_rfl
def LineEndR (T : TypeId) (w : World) (o : Out) : Ending → World → Prop := fun e w' =>
 ∃ v, e = .returned (.tuple #[v, .int .i64 o.col, .int .i64 o.e]) ∧ w'.ownsRow w.heap.size T 5 v o.l.length (cellsT o.l) ∧ Below w.heap.size w w'
theorem lineEnd_nil {T : TypeId} {w w' : World} {L C E : Int} (h : Below w.heap.size w w') : LineEndR T w ⟨[], L, C, E⟩ (.returned (.tuple #[.slice none 0 0, .int .i64 C, .int .i64 E])) w' :=
 ⟨_, rfl, World.ownsRow_nil _ _ _ _, h⟩
theorem blank_ways (b : UInt8) : isBlank b = ((bI b == 32) || (bI b == 9)) := by
 unfold isBlank
 rw [bI_eq b 32 32 rfl, bI_eq b 9 9 rfl]
set_option maxHeartbeats 1000000 in
theorem line_long (n : Int) (l : List UInt8) (h : 1000 < l.length) (w : World) : Calls Tryz.prog 58 #[.string (txB l), .int .i64 n] w (LineEndR 93 w (lineD n l)) := by
 have hd : decide ((1000 : Int) < ((txB l).size : Int)) = true := decide_eq_true (by rw [txB_size]; omega)
 have e : lineD n l = ⟨[], n, 1001, 12⟩ := by unfold lineD; rw [if_pos h]
 rw [e]
 clear h e
 generalize txB l = S at *
 go_enter Tryz.func58, Tryz.ntmps58
 go_wp2
 refine bodyPost_ret (v := .tuple #[.slice none 0 0, .int .i64 1001, .int .i64 12]) (by simp [results, Tryz.results58, go_sem]) rfl (lineEnd_nil (by go_grown))
set_option maxHeartbeats 4000000 in
theorem line_short (n : Int) (l : List UInt8) (h : l.length ≤ 1000) (w : World) : Calls Tryz.prog 58 #[.string (txB l), .int .i64 n] w (LineEndR 93 w (lineD n l)) := by
 have hd : decide ((1000 : Int) < ((txB l).size : Int)) = false := decide_eq_false (by rw [txB_size]; omega)
 obtain ⟨R, hR⟩ : ∃ R, lineD n l = R := ⟨_, rfl⟩
 rw [hR]
 have HR := hid (show toksR n l l.length 0 0 [] = R from by rw [← hR]; unfold lineD; rw [if_neg (by omega)])
 have HL := hid h
 have HZ := hid (txB_size l)
 clear hR h
 generalize hS : txB l = S at *
 have HS := hid hS
 clear hS
 obtain ⟨i0, hi, hz0, hz1, hz2⟩ := info_parts Tryz.infoR
 go_enter Tryz.func58, Tryz.ntmps58
 go_wp2
 go_loopw [7, 8, 9] (fun v i b wr => ∃ (k last f : Nat) (acc : List Tk) (K L : Int), i = .int .i64 K ∧ b = .int .i64 L ∧ Hid (K = k ∧ L = last ∧ k ≤ l.length ∧ last ≤ l.length ∧ acc.length ≤ k ∧ l.length ≤ k + f ∧ toksR n l f k last acc = R) ∧ Hid (wr.ownsRow w.heap.size 93 5 v acc.length (cellsT acc)) ∧ Below w.heap.size w wr) (fun v i b _ => l.length - (intOf i).toNat)
 case atStart => exact ⟨0, 0, l.length, [], 0, 0, rfl, rfl, hid ⟨rfl, rfl, by omega, by omega, by simp, by omega, HR.out⟩, hid (World.ownsRow_nil _ _ _ _), by go_grown⟩
 case round =>
  obtain ⟨k, last, f, acc, K, L, rfl, rfl, HQ, HO, hB⟩ := hrel
  obtain ⟨q1, q2, q3, q4, q5, q6, q7⟩ := HQ.out
  have hz := HZ.out
  have HQ2 := hid (show L = last ∧ last ≤ 1000 ∧ acc.length ≤ 1000 from ⟨q2, by have := HL.out; omega, by have := HL.out; omega⟩)
  by_cases hlt : k < l.length
  ·have hd : decide (K < (S.size : Int)) = true := decide_eq_true (by omega)
   have q := fun W => by have := ix_l l k hlt K q1 W; rw [HS.out] at this; exact this
   by_cases h35 : at8 l k = 35
   ·have HT := hid (show endT n last acc = R from by rw [← q7, toksR_remark n l f k last acc hlt h35])
    rw [h35, show bI 35 = 35 from rfl] at q
    clear q1 q2 q3 q4 q5 q6 q7 hz hlt h35
    have w4 : IntKind.i64.wrap (L + 1) = L + 1 := IntWalk.i64_in _ (by have := HQ2.out; omega)
    by_cases ha0 : acc = []
    ·subst ha0
     have HF := hid (show R = ⟨[], 0, 0, 0⟩ from by rw [← HT.out]; rfl)
     obtain ⟨p, cp, rfl⟩ := own_form HO.out
     clear HT HQ
     go_wp2
     refine bodyPost_ret (v := .tuple #[.slice p 0 cp, .int .i64 0, .int .i64 0]) (by simp [results, Tryz.results58, go_sem]) rfl ⟨_, by rw [HF.out], by rw [HF.out]; exact HO.out, hB⟩
    ·have HF := hid (show R = ⟨acc ++ [⟨4, [], 0, n, (last : Int) + 1⟩], 0, 0, 0⟩ from by rw [← HT.out]; unfold endT; rw [if_neg ha0])
     have c2 : 0 < acc.length := List.length_pos_iff.2 ha0
     obtain ⟨p, cp, rfl⟩ := own_form HO.out
     have HA := hid (own_below HO.out ((Below.refl _ wr).alloc (Nat.le_refl _) (.cells #[.int .i64 4, .string ⟨#[]⟩, .int .i64 0, .int .i64 n, .int .i64 (L + 1)] 93)))
     clear HT ha0
     go_wp2_with (at_builtin; refine wpList_append_own _ rfl _ _ 85 rfl w.heap.size 93 i0 _ 5 48 Tryz.underlying85 hi hz0 hz1 hz2 rfl (by decide) _ acc.length _ rfl HA.out ⟨wr.heap.size, 0, none⟩ 1 1 (cellsT [⟨4, [], 0, n, L + 1⟩]) rfl rfl ?d1 ?d2 ?d3 ?d4 ?d5 ?_)
     case d1 => exact cells5_at (W := wr) 93 ⟨4, [], 0, n, L + 1⟩
     case d2 => exact cellsT_one_cell _
     case d3 => have := HQ2.out; unfold maxLen; omega
     case d4 => have := HQ2.out; omega
     case d5 => have := hB.size; simp; omega
     intro v' w' hown' hg _
     have hBw : Below w.heap.size w w' := Below.grown (hB.trans ((Below.refl _ wr).alloc hB.size _)) hg (by have := hB.size; simp; omega) (fun k hk => (HA.out.lt k hk).1)
     have HO' : Hid (w'.ownsRow w.heap.size 93 5 v' R.l.length (cellsT R.l)) := hid (by rw [HF.out]; dsimp only; rw [List.length_append, cellsT_append, ← HQ2.out.1]; exact hown')
     clear hown' hg
     go_wp2
     refine bodyPost_ret (v := .tuple #[v', .int .i64 0, .int .i64 0]) (by simp [results, Tryz.results58, go_sem]) rfl ⟨_, by rw [HF.out], HO'.out, hBw⟩
   ·obtain ⟨f, rfl⟩ : ∃ f', f = f' + 1 := ⟨f - 1, by omega⟩
    have e35 : (bI (at8 l k) != 35) = true := by unfold bne; rw [bI_eq _ 35 35 rfl, beq_eq_false_iff_ne.2 h35]; rfl
    have hbw := blank_ways (at8 l k)
    cases hbl : isBlank (at8 l k)
    ·have hof := hid (one_c l (by have := HL.out; omega) k hlt)
     have g1 := toksR_err n l f k last acc hlt h35 hbl
     have g2 := toksR_tok n l f k last acc hlt h35 hbl
     have g3 := oneD_len (l.drop k)
     rw [List.length_drop] at g3
     rw [hbl] at hbw
     obtain ⟨e9, e10⟩ : (bI (at8 l k) == 32) = false ∧ (bI (at8 l k) == 9) = false := by
      have := hbw.symm
      simpa using this
     rw [HS.out] at hof
     generalize oneD (l.drop k) = o at *
     obtain ⟨ok, ot, on, ol, oe⟩ := o
     unfold oneV at hof
     dsimp only at g1 g2 g3 hof
     rw [← q1] at hof
     have w3 : IntKind.i64.wrap (K + 1) = K + 1 := IntWalk.i64_in _ (by have := HL.out; omega)
     by_cases hoe : oe = 0
     ·subst hoe
      rw [if_pos rfl] at hof
      have HN := hid (show K + (ol : Int) = ((k + ol : Nat) : Int) ∧ k + ol ≤ l.length ∧ acc.length + 1 ≤ k + ol ∧ l.length ≤ (k + ol) + f ∧ toksR n l f (k + ol) (k + ol) (acc ++ [⟨ok, ot, on, n, K + 1⟩]) = R ∧ k < k + ol from ⟨by omega, by have := g3 rfl; omega, by have := g3 rfl; omega, by have := g3 rfl; omega, by rw [← q7, g2 rfl, q1], by have := g3 rfl; omega⟩)
      have HQ3 := hid (show K = k ∧ k < l.length from ⟨q1, hlt⟩)
      generalize bI (at8 l k) = c at *
      obtain ⟨TI, hTI⟩ : ∃ TI, TI = K + (ol : Int) := ⟨_, rfl⟩
      rw [← hTI] at hof
      have HTI := hid hTI
      clear hbl h35 q1 q2 q3 q4 q5 q6 q7 hz hlt g1 g2 g3 hTI hbw
      obtain ⟨p, cp, rfl⟩ := own_form HO.out
      have HB := hid hB
      clear hB HQ
      have hbr : Below wr.heap.size wr wr := Below.refl _ _
      go_wp2_with fail
      ((with_reducible refine (hof.out _).mono ?_); rintro _ q1 ⟨rfl, hb⟩)
      have hz := hb.size
      (try simp only [szA] at hz)
      have hB' : Below wr.heap.size wr q1 := by
        refine kb ?_ hb
        go_grown
      clear hb hz
      have hB := hB'; clear hB'
      have hsz := hB.size
      go_wp2_with (at_builtin; refine wpList_append_own _ rfl _ _ 85 rfl w.heap.size 93 i0 _ 5 48 Tryz.underlying85 hi hz0 hz1 hz2 rfl (by decide) _ acc.length _ rfl (own_below HO.out ?b0) ⟨q1.heap.size + 1, 0, none⟩ 1 1 (cellsT [⟨ok, ot, on, n, K + 1⟩]) rfl rfl ?b1 ?b2 ?b3 ?b4 ?b5 ?_)
      case b0 => go_grown
      case b1 =>
       intro j u hu
       have h := cells5_at (W := q1.alloc (.cells #[.int .i64 ok, .string (txB ot), .int .i64 on, .int .i64 n, .int .i64 (K + 1)] 93)) 93 ⟨ok, ot, on, n, K + 1⟩ j u hu
       rw [World.size_alloc] at h
       exact h
      case b2 => exact cellsT_one_cell _
      case b3 => have h1 := HN.out.2.1; have h2 := HN.out.2.2.1; have := HL.out; unfold maxLen; omega
      case b4 => have h1 := HN.out.2.1; have h2 := HN.out.2.2.1; have := HL.out; omega
      case b5 => have := HB.out.size; have := hsz; simp; omega
      intro v' w' hown' hg _
      have hBw : Below w.heap.size w w' := Below.grown (HB.out.trans (Below.mono (by go_grown : Below wr.heap.size wr _) HB.out.size)) hg (by have := HB.out.size; have := hsz; simp; omega) (fun k hk => (HO.out.lt k hk).1)
      have HO' : Hid (w'.ownsRow w.heap.size 93 5 v' (acc ++ [Tk.mk ok ot on n (K + 1)]).length (cellsT (acc ++ [Tk.mk ok ot on n (K + 1)]))) := hid (by rw [List.length_append, cellsT_append]; exact hown')
      clear hown' hg
      go_wp2
      go_roundw
      case rel => exact ⟨k + ol, k + ol, f, acc ++ [Tk.mk ok ot on n (K + 1)], TI, TI, rfl, rfl, hid ⟨HTI.out.trans HN.out.1, HTI.out.trans HN.out.1, HN.out.2.1, HN.out.2.1, by rw [List.length_append]; exact HN.out.2.2.1, HN.out.2.2.2.1, HN.out.2.2.2.2.1⟩, HO', hBw⟩
      case measure => have h1 := HTI.out; have h2 := HN.out.1; have h3 := HN.out.2.2.2.2.2; have h4 := HQ3.out.1; have h5 := HQ3.out.2; simp only [intOf]; omega
     ·rw [if_neg hoe] at hof
      have HF := hid (show R = ⟨[], n, K + 1, oe⟩ from by rw [← q7, g1 hoe, q1])
      have he2 : (oe != 0) = true := by simp [bne, hoe]
      generalize bI (at8 l k) = c at *
      clear hbl h35 q1 q2 q3 q4 q5 q6 q7 hz hlt g1 g2 g3 hbw hoe
      have HB := hid hB
      clear hB HQ
      have hbr : Below wr.heap.size wr wr := Below.refl _ _
      go_wp2_with fail
      ((with_reducible refine (hof.out _).mono ?_); rintro _ q1 ⟨rfl, hb⟩)
      have hz := hb.size
      (try simp only [szA] at hz)
      have hB' : Below wr.heap.size wr q1 := by
        refine kb ?_ hb
        go_grown
      clear hb hz
      have hB := hB'; clear hB'
      have hsz := hB.size
      go_wp2
      refine bodyPost_ret (v := .tuple #[.slice none 0 0, .int .i64 (K + 1), .int .i64 oe]) (by simp [results, Tryz.results58, go_sem]) rfl (by rw [HF.out]; exact lineEnd_nil (HB.out.trans (Below.mono (by go_grown : Below wr.heap.size wr _) HB.out.size)))
    ·have HN := hid (show K + 1 = ((k + 1 : Nat) : Int) ∧ k + 1 ≤ l.length ∧ acc.length ≤ k + 1 ∧ l.length ≤ (k + 1) + f ∧ toksR n l f (k + 1) last acc = R from ⟨by omega, by omega, by omega, by omega, by rw [← q7, toksR_blank n l f k last acc hlt h35 hbl]⟩)
     rw [hbl] at hbw
     have w3 : IntKind.i64.wrap (K + 1) = K + 1 := IntWalk.i64_in _ (by have := HL.out; omega)
     generalize bI (at8 l k) = c at *
     have HQ3 := hid (show L = last ∧ last ≤ l.length from ⟨q2, q4⟩)
     clear hbl h35 q1 q2 q3 q4 q5 q6 q7 hz hlt
     cases e9 : (c == 32)
     ·have e10 : (c == 9) = true := by rw [e9] at hbw; exact hbw.symm
      clear hbw
      go_wp2
      go_roundw
      case rel => exact ⟨k + 1, last, f, acc, K + 1, L, rfl, rfl, hid ⟨HN.out.1, HQ3.out.1, HN.out.2.1, HQ3.out.2, HN.out.2.2.1, HN.out.2.2.2.1, HN.out.2.2.2.2⟩, HO, hB⟩
      case measure => have h1 := HN.out.1; have h2 := HN.out.2.1; simp only [intOf]; omega
     ·clear hbw
      go_wp2
      go_roundw
      case rel => exact ⟨k + 1, last, f, acc, K + 1, L, rfl, rfl, hid ⟨HN.out.1, HQ3.out.1, HN.out.2.1, HQ3.out.2, HN.out.2.2.1, HN.out.2.2.2.1, HN.out.2.2.2.2⟩, HO, hB⟩
      case measure => have h1 := HN.out.1; have h2 := HN.out.2.1; simp only [intOf]; omega
  ·have hd : decide (K < (S.size : Int)) = false := decide_eq_false (by omega)
   have HT := hid (show endT n last acc = R from by rw [← q7, toksR_end n l f k last acc (by omega)])
   clear q1 q2 q3 q4 q5 q6 q7 hz hlt
   have w4 : IntKind.i64.wrap (L + 1) = L + 1 := IntWalk.i64_in _ (by have := HQ2.out; omega)
   by_cases ha0 : acc = []
   ·subst ha0
    have HF := hid (show R = ⟨[], 0, 0, 0⟩ from by rw [← HT.out]; rfl)
    obtain ⟨p, cp, rfl⟩ := own_form HO.out
    clear HT HQ
    go_wp2
    refine bodyPost_ret (v := .tuple #[.slice p 0 cp, .int .i64 0, .int .i64 0]) (by simp [results, Tryz.results58, go_sem]) rfl ⟨_, by rw [HF.out], by rw [HF.out]; exact HO.out, hB⟩
   ·have HF := hid (show R = ⟨acc ++ [⟨4, [], 0, n, (last : Int) + 1⟩], 0, 0, 0⟩ from by rw [← HT.out]; unfold endT; rw [if_neg ha0])
    have c2 : 0 < acc.length := List.length_pos_iff.2 ha0
    obtain ⟨p, cp, rfl⟩ := own_form HO.out
    have HA := hid (own_below HO.out ((Below.refl _ wr).alloc (Nat.le_refl _) (.cells #[.int .i64 4, .string ⟨#[]⟩, .int .i64 0, .int .i64 n, .int .i64 (L + 1)] 93)))
    clear HT ha0
    go_wp2_with (at_builtin; refine wpList_append_own _ rfl _ _ 85 rfl w.heap.size 93 i0 _ 5 48 Tryz.underlying85 hi hz0 hz1 hz2 rfl (by decide) _ acc.length _ rfl HA.out ⟨wr.heap.size, 0, none⟩ 1 1 (cellsT [⟨4, [], 0, n, L + 1⟩]) rfl rfl ?c1 ?c2 ?c3 ?c4 ?c5 ?_)
    case c1 => exact cells5_at (W := wr) 93 ⟨4, [], 0, n, L + 1⟩
    case c2 => exact cellsT_one_cell _
    case c3 => have := HQ2.out; unfold maxLen; omega
    case c4 => have := HQ2.out; omega
    case c5 => have := hB.size; simp; omega
    intro v' w' hown' hg _
    have hBw : Below w.heap.size w w' := Below.grown (hB.trans ((Below.refl _ wr).alloc hB.size _)) hg (by have := hB.size; simp; omega) (fun k hk => (HA.out.lt k hk).1)
    have HO' : Hid (w'.ownsRow w.heap.size 93 5 v' R.l.length (cellsT R.l)) := hid (by rw [HF.out]; dsimp only; rw [List.length_append, cellsT_append, ← HQ2.out.1]; exact hown')
    clear hown' hg
    go_wp2
    refine bodyPost_ret (v := .tuple #[v', .int .i64 0, .int .i64 0]) (by simp [results, Tryz.results58, go_sem]) rfl ⟨_, by rw [HF.out], HO'.out, hBw⟩
theorem lineref_c (n : Int) (l : List UInt8) (w : World) : Calls Tryz.prog 58 #[.string (txB l), .int .i64 n] w (LineEndR 93 w (lineD n l)) := by
 by_cases h : 1000 < l.length
 ·exact line_long n l h w
 ·exact line_short n l (by omega) w
set_option maxHeartbeats 4000000 in
theorem scanr_c (l : List UInt8) (hl : l.length ≤ 65536) (w : World) : Calls Tryz.prog 39 #[.string (txB l)] w (ScanEnd 93 w (scanD l)) := by
 rw [scanD_short l hl]
 obtain ⟨R, hR⟩ : ∃ R, scanR (linesA [] l) 1 [] = R := ⟨_, rfl⟩
 rw [hR]
 have HR := hid hR
 have HL := hid hl
 have HZ := hid (txB_size l)
 clear hR hl
 generalize hS : txB l = S at *
 have HS := hid hS
 clear hS
 obtain ⟨i0, hi, hz0, hz1, hz2⟩ := info_parts Tryz.infoR
 go_enter Tryz.func39, Tryz.ntmps39
 go_wp2
 go_loopw [5, 6, 7, 8] (fun v n fr i wr => ∃ (k f : Nat) (acc : List Tk) (K F N : Int), i = .int .i64 K ∧ fr = .int .i64 F ∧ n = .int .i64 N ∧ Hid (K = k ∧ F = f ∧ f ≤ k ∧ acc.length ≤ 2 * f ∧ 1 ≤ N ∧ N ≤ f + 1 ∧ ((k ≤ l.length ∧ scanR (linesA ((l.take k).drop f) (l.drop k)) N acc = R) ∨ (k = l.length + 1 ∧ f = l.length + 1 ∧ R = ⟨acc, 0, 0, 0⟩))) ∧ Hid (wr.ownsRow (w.heap.size + 1) 93 5 v acc.length (cellsT acc)) ∧ wr.cell? ⟨w.heap.size, 0, none⟩ = some (.int .i64 0) ∧ wr.frozen? ⟨w.heap.size, 0, none⟩ = false ∧ wr.cell? ⟨w.heap.size, 1, none⟩ = some (.int .i64 0) ∧ wr.frozen? ⟨w.heap.size, 1, none⟩ = false ∧ Below w.heap.size w wr) (fun v n fr i _ => l.length + 1 - (intOf i).toNat)
 case atStart => exact ⟨0, 0, [], 0, 0, 1, rfl, rfl, rfl, hid ⟨rfl, rfl, by omega, by simp, by omega, by omega, .inl ⟨by omega, HR.out⟩⟩, hid (World.ownsRow_nil _ _ _ _), by go_simp, by go_simp, by go_simp, by go_simp, by go_grown⟩
 case round =>
  obtain ⟨k, f, acc, K, F, N, rfl, rfl, rfl, HQ, HO, hz_0, fz_0, hz_1, fz_1, hB⟩ := hrel
  obtain ⟨q1, q2, q3, q4, q5, q6, q7⟩ := HQ.out
  have hz := HZ.out
  have hl := HL.out
  obtain ⟨p, cp, rfl⟩ := own_form HO.out
  have hlz := klt hz_0
  by_cases hle : k ≤ l.length
  ·have q8 : scanR (linesA ((l.take k).drop f) (l.drop k)) N acc = R := by
    rcases q7 with h | h
    ·exact h.2
    ·omega
   clear q7
   have hd0 : decide (K ≤ (S.size : Int)) = true := decide_eq_true (by omega)
   have w3 : IntKind.i64.wrap (K + 1) = K + 1 := IntWalk.i64_in _ (by omega)
   by_cases hon : k < l.length ∧ at8 l k ≠ 10
   ·obtain ⟨hlt, h10⟩ := hon
    have hd : decide (K < (S.size : Int)) = true := decide_eq_true (by omega)
    have q := fun W => by have := ix_l l k hlt K q1 W; rw [HS.out] at this; exact this
    have e10 : (bI (at8 l k) != 10) = true := by unfold bne; rw [bI_eq _ 10 10 rfl, beq_eq_false_iff_ne.2 h10]; rfl
    have HN := hid (show K + 1 = ((k + 1 : Nat) : Int) ∧ F = f ∧ f ≤ k + 1 ∧ acc.length ≤ 2 * f ∧ 1 ≤ N ∧ N ≤ f + 1 ∧ ((k + 1 ≤ l.length ∧ scanR (linesA ((l.take (k + 1)).drop f) (l.drop (k + 1))) N acc = R) ∨ (k + 1 = l.length + 1 ∧ f = l.length + 1 ∧ R = ⟨acc, 0, 0, 0⟩)) from
     ⟨by omega, q2, by omega, q4, q5, q6, .inl ⟨by omega, by rw [← q8, linesA_on l _ k hlt h10, take_drop_snoc l k f hlt q3]⟩⟩)
    have HQ2 := hid (show K = k ∧ k < l.length from ⟨q1, hlt⟩)
    generalize bI (at8 l k) = c at *
    clear q1 q2 q3 q4 q5 q6 q8 hz hl hle hlt h10 HQ
    go_wp2
    go_roundw
    case rel => exact ⟨k + 1, f, acc, K + 1, F, N, rfl, rfl, rfl, HN, HO, hz_0, fz_0, hz_1, fz_1, hB⟩
    case measure => have h1 := HQ2.out; simp only [intOf]; omega
   ·obtain ⟨x, hx⟩ : ∃ x, (l.take k).drop f = x := ⟨_, rfl⟩
    rw [hx] at q8
    have hxl : x.length = k - f := by rw [← hx, List.length_drop, List.length_take]; omega
    have hsl : ∀ W, (Instr.slice 9 (.string S) (some (.int .i64 F)) (some (.int .i64 K)) none).run Tryz.prog W = .ok (.string (txB x)) W := fun W => by
     rw [← HS.out, run_slice_string _ _ _ _ _ _ _ Tryz.underlying9 (by omega) (by omega) (by rw [txB_size]; omega), q1, q2, Int.toNat_natCast, Int.toNat_natCast, txB_extract, hx]
    have hol := lineD_len N x
    have hoe := lineD_nil N x
    have hLn := hid (fun W => lineref_c N x W)
    have hnext : (lineD N x).e = 0 → ((k + 1 ≤ l.length ∧ scanR (linesA ((l.take (k + 1)).drop (k + 1)) (l.drop (k + 1))) (N + 1) (acc ++ (lineD N x).l) = R) ∨ (k + 1 = l.length + 1 ∧ k + 1 = l.length + 1 ∧ R = ⟨acc ++ (lineD N x).l, 0, 0, 0⟩)) := fun he => by
     by_cases hlt : k < l.length
     ·left
      refine ⟨by omega, ?_⟩
      have h10 : at8 l k = 10 := Classical.byContradiction fun h => hon ⟨hlt, h⟩
      rw [← q8, linesA_feed l x k hlt h10, scanR_on x _ N acc he, take_drop_self]
     ·right
      refine ⟨by omega, by omega, ?_⟩
      rw [← q8, linesA_end l x k (by omega), scanR_on x _ N acc he]
      rfl
    have herr : (lineD N x).e ≠ 0 → R = ⟨[], N, (lineD N x).col, (lineD N x).e⟩ := fun he => by
     by_cases hlt : k < l.length
     ·have h10 : at8 l k = 10 := Classical.byContradiction fun h => hon ⟨hlt, h⟩
      rw [← q8, linesA_feed l x k hlt h10, scanR_err x _ N acc he]
     ·rw [← q8, linesA_end l x k (by omega), scanR_err x _ N acc he]
    have hguard : (decide (K < (S.size : Int)) = true ∧ (∀ W, (Instr.index 9 (.string S) (.int .i64 K)).run Tryz.prog W = .ok (.int .u8 10) W)) ∨ decide (K < (S.size : Int)) = false := by
     by_cases hlt : k < l.length
     ·left
      have h10 : at8 l k = 10 := Classical.byContradiction fun h => hon ⟨hlt, h⟩
      refine ⟨decide_eq_true (by omega), fun W => ?_⟩
      have := ix_l l k hlt K q1 W
      rw [HS.out, h10] at this
      exact this
     ·exact .inr (decide_eq_false (by omega))
    have w4 : IntKind.i64.wrap (N + 1) = N + 1 := IntWalk.i64_in _ (by omega)
    generalize lineD N x = o at *
    obtain ⟨oL, oli, oc, oe⟩ := o
    dsimp only at hol hoe hnext herr
    unfold LineEndR at hLn
    dsimp only at hLn
    have HQ2 := hid (show K = k ∧ k ≤ l.length ∧ oL.length ≤ k + 1 - f ∧ acc.length ≤ 2 * f ∧ f ≤ k ∧ l.length ≤ 65536 ∧ 1 ≤ N ∧ N ≤ f + 1 from ⟨q1, hle, by omega, q4, q3, hl, q5, q6⟩)
    have HB := hid hB
    have hbr : Below wr.heap.size wr wr := Below.refl _ _
    have hnr := hB.size
    by_cases hE : oe = 0
    ·subst hE
     have HN := hid (hnext rfl)
     clear hnext herr hoe hol hxl hx q1 q2 q3 q4 q5 q6 q8 hz hl hle hon HQ hB
     rcases hguard with ⟨hd, q⟩ | hd
     all_goals
      skip
      go_wp2_with fail
      ((with_reducible refine (hLn.out _).mono ?_); rintro _ q1 ⟨v, rfl, hown, hb⟩)
      have hs_q1 := hid hb
      have T : CF q1 w.heap.size 0 (.int .i64 0) ∧ CF q1 w.heap.size 1 (.int .i64 0) := by
        refine ⟨⟨?_, ?_⟩, ⟨?_, ?_⟩⟩ <;> first | (refine kc hb ?_ <;> (go_simp; first | done | rfl)) | (refine kfz hb ?_ ?_ <;> first | (go_size; done) | (go_simp; done))
      have hz := hb.size
      (try simp only [szA] at hz)
      have L : w.heap.size < q1.heap.size := by omega
      have hB' : Below wr.heap.size wr q1 := by
        refine kb ?_ hb
        go_grown
      clear hb hz
      obtain ⟨⟨hz_0, fz_0⟩, ⟨hz_1, fz_1⟩⟩ := T
      have hlz := L; clear L
      obtain ⟨hnz0, hnz1, hkz1, hnz2, hkz2⟩ := ap0 hlz
      have hB := hB'; clear hB'
      have hsz := hB.size
      have HV := hid hown
      have HO2 := hid (own_below HO.out hB)
      clear hown
      go_wp2_with (at_builtin; refine wpList_append_row rfl _ _ 85 rfl (w.heap.size + 1) 93 i0 _ 5 48 Tryz.underlying85 hi hz0 hz1 hz2 rfl (by decide) _ acc.length _ rfl HO2.out _ v oL.length _ rfl HV.out ?NM1 ?NM2 ?NM3 ?NM4 ?_)
      case NM1 => exact cellsT_one_cell _
      case NM2 => have := HQ2.out; unfold maxLen; omega
      case NM3 => have := HQ2.out; omega
      case NM4 => have := HB.out.size; have := hsz; omega
      intro v' w' hown' hg
      have hBw : Below w.heap.size w w' := Below.grown (HB.out.trans (Below.mono hB HB.out.size)) hg (by have := HB.out.size; have := hsz; omega) (fun k hk => by have := (HO2.out.lt k hk).1; omega)
      have T : w'.cell? ⟨w.heap.size, 0, none⟩ = some (.int .i64 0) ∧ w'.frozen? ⟨w.heap.size, 0, none⟩ = false ∧ w'.cell? ⟨w.heap.size, 1, none⟩ = some (.int .i64 0) ∧ w'.frozen? ⟨w.heap.size, 1, none⟩ = false :=
       ⟨grown_cell HO2.out hg (by omega) hz_0, grown_frozen HO2.out hg (by omega) (klt hz_0) fz_0, grown_cell HO2.out hg (by omega) hz_1, grown_frozen HO2.out hg (by omega) (klt hz_1) fz_1⟩
      have HO' : Hid (w'.ownsRow (w.heap.size + 1) 93 5 v' (acc ++ oL).length (cellsT (acc ++ oL))) := hid (by rw [List.length_append, cellsT_append]; exact hown')
      clear hown' hg hz_0 fz_0 hz_1 fz_1
      obtain ⟨hz_0, fz_0, hz_1, fz_1⟩ := T
      go_wp2
      go_roundw
      case rel =>
       have hq := HQ2.out
       exact ⟨k + 1, k + 1, acc ++ oL, K + 1, K + 1, N + 1, rfl, rfl, rfl, hid ⟨by omega, by omega, by omega, by rw [List.length_append]; omega, by omega, by omega, HN.out⟩, HO', hz_0, fz_0, hz_1, fz_1, hBw⟩
      case measure => have h1 := HQ2.out; simp only [intOf]; omega
    ·obtain rfl := hoe hE
     have HF := hid (herr hE)
     have he2 : (oe != 0) = true := by simp [bne, hE]
     clear hnext herr hoe hol hxl hx q1 q2 q3 q4 q5 q6 q8 hz hl hle hon HQ hB hE
     rcases hguard with ⟨hd, q⟩ | hd
     all_goals
      skip
      go_wp2_with fail
      ((with_reducible refine (hLn.out _).mono ?_); rintro _ q1 ⟨v, rfl, hown, hb⟩)
      have hs_q1 := hid hb
      have T : CF q1 w.heap.size 0 (.int .i64 0) ∧ CF q1 w.heap.size 1 (.int .i64 0) := by
        refine ⟨⟨?_, ?_⟩, ⟨?_, ?_⟩⟩ <;> first | (refine kc hb ?_ <;> (go_simp; first | done | rfl)) | (refine kfz hb ?_ ?_ <;> first | (go_size; done) | (go_simp; done))
      have hz := hb.size
      (try simp only [szA] at hz)
      have L : w.heap.size < q1.heap.size := by omega
      have hB' : Below wr.heap.size wr q1 := by
        refine kb ?_ hb
        go_grown
      clear hb hz
      obtain ⟨⟨hz_0, fz_0⟩, ⟨hz_1, fz_1⟩⟩ := T
      have hlz := L; clear L
      obtain ⟨hnz0, hnz1, hkz1, hnz2, hkz2⟩ := ap0 hlz
      have hB := hB'; clear hB'
      have hsz := hB.size
      clear hown
      go_wp2
      refine bodyPost_ret (v := .tuple #[.slice none 0 0, .agg #[.int .i64 N, .int .i64 oc], .int .i64 oe]) (by simp [results, Tryz.results39, go_sem, hz_0, hz_1] <;> first | done | rfl) rfl (by rw [HF.out]; exact scanEnd_nil (((HB.out.trans (Below.mono hB HB.out.size)).setCell (by dsimp only; omega) _).setCell (by dsimp only; omega) _))
  ·have hd0 : decide (K ≤ (S.size : Int)) = false := decide_eq_false (by omega)
   have HF := hid (show R = ⟨acc, 0, 0, 0⟩ from by
    rcases q7 with h | h
    ·omega
    ·exact h.2.2)
   clear q1 q2 q3 q4 q5 q6 q7 hz hl hle HQ
   go_wp2
   refine bodyPost_ret (v := .tuple #[.slice p acc.length cp, .agg #[.int .i64 0, .int .i64 0], .int .i64 0]) (by simp [results, Tryz.results39, go_sem, hz_0, hz_1] <;> first | done | rfl) rfl ⟨_, by rw [HF.out], by rw [HF.out]; exact own_low (own_other (own_other HO.out (by dsimp only; omega)) (by dsimp only; omega)) (by omega), (hB.setCell (by dsimp only; omega) _).setCell (by dsimp only; omega) _⟩
end Go.Proofs.YtjcmblbnbpikfaaGreatDoor
