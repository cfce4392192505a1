/- Layer 6, the program: the -/
import Derived.Test.YtjcmblbnbpikfaaGreatDoorProg2
set_option linter.unusedSimpArgs false
set_option linter.unusedVariables false
set_option maxRecDepth 100000
namespace Go.Proofs.YtjcmblbnbpikfaaGreatDoor
open Lib (hid)
open Go.RowKit Go.PlainAid

theorem Tryz.infoP : (Tryz.prog.info? 81).map (fun i => (i.zero, i.size, i.bytes)) = some (some (.agg #[.int .i64 0, .string ⟨#[]⟩, .int .i64 0, .int .i64 0, .int .i64 0]), 5, 48) := by kernel_rfl
theorem place_c (n k : Int) (hk : 0 ≤ k ∧ k ≤ 100000) (b : Nat) (w : World) (hb : w.cell? ⟨b, 0, none⟩ = some (.int .i64 n)) : Calls Tryz.prog 69 #[.int .i64 k, ptr0 b] w fun e w' => e = .returned (.agg #[.int .i64 n, .int .i64 (k + 1)]) ∧ Below w.heap.size w w' := by
 have w1 : IntKind.i64.wrap (k + 1) = k + 1 := IntWalk.i64_in _ (by omega)
 have hlt := klt hb
 clear hk
 go_enter Tryz.func69, Tryz.ntmps69
 go_wp2
 refine bodyPost_ret (v := .agg #[.int .i64 n, .int .i64 (k + 1)]) (by simp [results, Tryz.results69, go_sem] <;> first | done | rfl) rfl ⟨rfl, by go_grown⟩
theorem grown_cell2 {wr w w' : World} {B size n : Nat} {e : TypeId} {v : Value} {xs : List Value} (ho : wr.ownsRow B e size v n xs) (hB : Below wr.heap.size wr w) (hg : w.grownBy w' v.ownBlock) {b o : Nat} {u : Value} (hb : b < B) (h : w.cell? ⟨b, o, none⟩ = some u) : w'.cell? ⟨b, o, none⟩ = some u :=
 grown_cell (own_below ho hB) hg hb h
theorem grown_frozen2 {wr w w' : World} {B size n : Nat} {e : TypeId} {v : Value} {xs : List Value} (ho : wr.ownsRow B e size v n xs) (hB : Below wr.heap.size wr w) (hg : w.grownBy w' v.ownBlock) {b o : Nat} (hb : b < B) (hlt : b < w.heap.size) (h : w.frozen? ⟨b, o, none⟩ = false) : w'.frozen? ⟨b, o, none⟩ = false :=
 grown_frozen (own_below ho hB) hg hb hlt h
set_option maxHeartbeats 1000000 in
theorem linep_long (n : Int) (l : List UInt8) (h : 1000 < l.length) (w : World) : Calls Tryz.prog 54 #[.string (txB l), .int .i64 n] w (ScanEnd 81 w (lineD n l)) := by
 have hd : decide ((1000 : Int) < ((txB l).size : Int)) = true := decide_eq_true (by rw [txB_size]; omega)
 have e : lineD n l = ⟨[], n, 1001, 12⟩ := by unfold lineD; rw [if_pos h]
 rw [e]
 clear h e
 generalize txB l = S at *
 go_enter Tryz.func54, Tryz.ntmps54
 go_wp2_with fail
 ((with_reducible refine (place_c n 1000 (by omega) w.heap.size _ (by go_simp)).mono ?_); rintro _ q1 ⟨rfl, hb⟩)
 have T : q1.cell? ⟨w.heap.size, 0, none⟩ = some (.int .i64 n) ∧ CF q1 (w.heap.size + 1) 0 (.int .i64 0) ∧ CF q1 (w.heap.size + 1) 1 (.int .i64 0) := by
   refine ⟨?_, ⟨?_, ?_⟩, ⟨?_, ?_⟩⟩ <;> first | (refine kc hb ?_ <;> (go_simp; first | done | rfl)) | (refine kfz hb ?_ ?_ <;> first | (go_size; done) | (go_simp; done))
 have hz := hb.size
 (try simp only [szA] at hz)
 have L : w.heap.size < q1.heap.size ∧ w.heap.size + 1 < q1.heap.size := by omega
 have hB' : Below w.heap.size w q1 := by
   refine kb ?_ hb
   go_grown
 clear hb hz
 obtain ⟨hn_0, ⟨hz_0, fz_0⟩, ⟨hz_1, fz_1⟩⟩ := T
 obtain ⟨hln, hlz⟩ := L
 obtain ⟨hnn0, hnn1, hkn1, hnn2, hkn2⟩ := ap0 hln
 obtain ⟨hnz0, hkz1⟩ := ap1 hlz
 have hB := hB'; clear hB'
 have hsz := hB.size
 go_wp2
 refine bodyPost_ret (v := .tuple #[.slice none 0 0, .agg #[.int .i64 n, .int .i64 1001], .int .i64 12]) (by simp [results, Tryz.results54, go_sem, hz_0, hz_1] <;> first | done | rfl) rfl (scanEnd_nil ((hB.setCell (by dsimp only; omega) _).setCell (by dsimp only; omega) _))
set_option maxHeartbeats 4000000 in
theorem linep_short (n : Int) (l : List UInt8) (h : l.length ≤ 1000) (w : World) : Calls Tryz.prog 54 #[.string (txB l), .int .i64 n] w (ScanEnd 81 w (lineD n l)) := by
 have hd : decide ((1000 : Int) < ((txB l).size : Int)) = false := decide_eq_false (by rw [txB_size]; omega)
 obtain ⟨R, hR⟩ : ∃ R, lineD n l = R := ⟨_, rfl⟩
 rw [hR]
 have HR := hid (show toksR n l l.length 0 0 [] = R from by rw [← hR]; unfold lineD; rw [if_neg (by omega)])
 have HL := hid h
 have HZ := hid (txB_size l)
 clear hR h
 generalize hS : txB l = S at *
 have HS := hid hS
 clear hS
 obtain ⟨i0, hi, hz0, hz1, hz2⟩ := info_parts Tryz.infoP
 go_enter Tryz.func54, Tryz.ntmps54
 go_wp2
 go_loopw [8, 9, 10] (fun v b i wr => ∃ (k last f : Nat) (acc : List Tk) (K L : Int), i = .int .i64 K ∧ b = .int .i64 L ∧ Hid (K = k ∧ L = last ∧ k ≤ l.length ∧ last ≤ l.length ∧ acc.length ≤ k ∧ l.length ≤ k + f ∧ toksR n l f k last acc = R) ∧ Hid (wr.ownsRow (w.heap.size + 2) 81 5 v acc.length (cellsT acc)) ∧ wr.cell? ⟨w.heap.size, 0, none⟩ = some (.int .i64 n) ∧ wr.cell? ⟨w.heap.size + 1, 0, none⟩ = some (.int .i64 0) ∧ wr.frozen? ⟨w.heap.size + 1, 0, none⟩ = false ∧ wr.cell? ⟨w.heap.size + 1, 1, none⟩ = some (.int .i64 0) ∧ wr.frozen? ⟨w.heap.size + 1, 1, none⟩ = false ∧ Below w.heap.size w wr) (fun v b i _ => l.length - (intOf i).toNat)
 case atStart => exact ⟨0, 0, l.length, [], 0, 0, rfl, rfl, hid ⟨rfl, rfl, by omega, by omega, by simp, by omega, HR.out⟩, hid (World.ownsRow_nil _ _ _ _), by go_simp, by go_simp, by go_simp, by go_simp, by go_simp, by go_grown⟩
 case round =>
  obtain ⟨k, last, f, acc, K, L, rfl, rfl, HQ, HO, hn_0, hz_0, fz_0, hz_1, fz_1, hB⟩ := hrel
  obtain ⟨q1, q2, q3, q4, q5, q6, q7⟩ := HQ.out
  have hz := HZ.out
  have HQ2 := hid (show L = last ∧ last ≤ 1000 ∧ acc.length ≤ 1000 from ⟨q2, by have := HL.out; omega, by have := HL.out; omega⟩)
  obtain ⟨p, cp, rfl⟩ := own_form HO.out
  have HB := hid hB
  have hbr : Below wr.heap.size wr wr := Below.refl _ _
  have hln := klt hn_0
  have hlz := klt hz_0
  by_cases hlt : k < l.length
  ·have hd : decide (K < (S.size : Int)) = true := decide_eq_true (by omega)
   have q := fun W => by have := ix_l l k hlt K q1 W; rw [HS.out] at this; exact this
   by_cases h35 : at8 l k = 35
   ·have HT := hid (show endT n last acc = R from by rw [← q7, toksR_remark n l f k last acc hlt h35])
    rw [h35, show bI 35 = 35 from rfl] at q
    clear q1 q2 q3 q4 q5 q6 q7 hz hlt h35
    by_cases ha0 : acc = []
    ·subst ha0
     have HF := hid (show R = ⟨[], 0, 0, 0⟩ from by rw [← HT.out]; rfl)
     clear HT HQ
     go_wp2
     refine bodyPost_ret (v := .tuple #[.slice p 0 cp, .agg #[.int .i64 0, .int .i64 0], .int .i64 0]) (by simp [results, Tryz.results54, go_sem, hz_0, hz_1] <;> first | done | rfl) rfl ⟨_, by rw [HF.out], by rw [HF.out]; exact own_low (own_other (own_other HO.out (by dsimp only; omega)) (by dsimp only; omega)) (by omega), ((HB.out).setCell (by dsimp only; omega) _).setCell (by dsimp only; omega) _⟩
    ·have HF := hid (show R = ⟨acc ++ [⟨4, [], 0, n, (last : Int) + 1⟩], 0, 0, 0⟩ from by rw [← HT.out]; unfold endT; rw [if_neg ha0])
     have c2 : 0 < acc.length := List.length_pos_iff.2 ha0
     have HPl := hid (fun W h => place_c n L (by have := HQ2.out; omega) w.heap.size W h)
     clear HT ha0
     go_wp2_with fail
     ((with_reducible refine (HPl.out _ (by go_simp)).mono ?_); rintro _ q1 ⟨rfl, hb⟩)
     have T : q1.cell? ⟨w.heap.size, 0, none⟩ = some (.int .i64 n) ∧ CF q1 (w.heap.size + 1) 0 (.int .i64 0) ∧ CF q1 (w.heap.size + 1) 1 (.int .i64 0) := by
       refine ⟨?_, ⟨?_, ?_⟩, ⟨?_, ?_⟩⟩ <;> first | (refine kc hb ?_ <;> (go_simp; first | done | rfl)) | (refine kfz hb ?_ ?_ <;> first | (go_size; done) | (go_simp; done))
     have hz := hb.size
     (try simp only [szA] at hz)
     have L : w.heap.size < q1.heap.size ∧ w.heap.size + 1 < q1.heap.size := by omega
     have hB' : Below wr.heap.size wr q1 := by
       refine kb ?_ hb
       go_grown
     clear hb hz
     obtain ⟨hn_0, ⟨hz_0, fz_0⟩, ⟨hz_1, fz_1⟩⟩ := T
     obtain ⟨hln, hlz⟩ := L
     obtain ⟨hnn0, hnn1, hkn1, hnn2, hkn2⟩ := ap0 hln
     obtain ⟨hnz0, hkz1⟩ := ap1 hlz
     have hB := hB'; clear hB'
     have hsz := hB.size
     go_wp2_with (at_builtin; refine wpList_append_own _ rfl _ _ 56 rfl (w.heap.size + 2) 81 i0 _ 5 48 Tryz.underlying56 hi hz0 hz1 hz2 rfl (by decide) _ acc.length _ rfl (own_below HO.out ?d0) ⟨q1.heap.size, 0, none⟩ 1 1 (cellsT [⟨4, [], 0, n, L + 1⟩]) rfl rfl ?d1 ?d2 ?d3 ?d4 ?d5 ?_)
     case d0 => exact hB.alloc hsz _
     case d1 => exact cells5_at (W := q1) 81 ⟨4, [], 0, n, L + 1⟩
     case d2 => exact cellsT_one_cell _
     case d3 => have := HQ2.out; unfold maxLen; omega
     case d4 => have := HQ2.out; omega
     case d5 => have := HB.out.size; simp; omega
     intro v' w' hown' hg _
     have HA := hid (own_below HO.out (hB.alloc hsz (.cells #[.int .i64 4, .string ⟨#[]⟩, .int .i64 0, .int .i64 n, .int .i64 (L + 1)] 81)))
     have hBw : Below w.heap.size w w' := Below.grown ((HB.out.trans (Below.mono hB HB.out.size)).alloc (by have := HB.out.size; omega) _) hg (by have := HB.out.size; simp; omega) (fun k hk => by have := (HO.out.lt k hk).1; omega)
     have T : w'.cell? ⟨w.heap.size + 1, 0, none⟩ = some (.int .i64 0) ∧ w'.frozen? ⟨w.heap.size + 1, 0, none⟩ = false ∧ w'.cell? ⟨w.heap.size + 1, 1, none⟩ = some (.int .i64 0) ∧ w'.frozen? ⟨w.heap.size + 1, 1, none⟩ = false :=
      ⟨grown_cell HA.out hg (by omega) (by go_simp), grown_frozen HA.out hg (by omega) (by simp; omega) (by go_simp), grown_cell HA.out hg (by omega) (by go_simp), grown_frozen HA.out hg (by omega) (by simp; omega) (by go_simp)⟩
     have HO' : Hid (w'.ownsRow (w.heap.size + 2) 81 5 v' R.l.length (cellsT R.l)) := hid (by rw [HF.out]; dsimp only; rw [List.length_append, cellsT_append, ← HQ2.out.1]; exact hown')
     clear hown' hg hz_0 fz_0 hz_1 fz_1
     obtain ⟨hz_0, fz_0, hz_1, fz_1⟩ := T
     go_wp2
     refine bodyPost_ret (v := .tuple #[v', .agg #[.int .i64 0, .int .i64 0], .int .i64 0]) (by simp [results, Tryz.results54, go_sem, hz_0, hz_1] <;> first | done | rfl) rfl ⟨_, by rw [HF.out], own_low (own_other (own_other HO'.out (by dsimp only; omega)) (by dsimp only; omega)) (by omega), (hBw.setCell (by dsimp only; omega) _).setCell (by dsimp only; omega) _⟩
   ·obtain ⟨f, rfl⟩ : ∃ f', f = f' + 1 := ⟨f - 1, by omega⟩
    have e35 : (bI (at8 l k) != 35) = true := by unfold bne; rw [bI_eq _ 35 35 rfl, beq_eq_false_iff_ne.2 h35]; rfl
    have HBl := hid (fun W => in_blanks_c (at8 l k) W)
    cases hbl : isBlank (at8 l k)
    ·rw [hbl] at HBl
     have hof := hid (tokp_c (l.drop k) (by have := HL.out; rw [List.length_drop]; omega) (by rw [List.length_drop]; omega))
     have hsl : ∀ W, (Instr.slice 9 (.string S) (some (.int .i64 K)) none none).run Tryz.prog W = .ok (.string (txB (l.drop k))) W := fun W => by
      rw [← HS.out, run_slice_string_l (ht := Tryz.underlying9) (h0 := by omega) (h1 := by rw [txB_size]; omega), q1, Int.toNat_natCast, txB_extract, txB_size, List.take_of_length_le (Nat.le_refl _)]
     have g1 := toksR_err n l f k last acc hlt h35 hbl
     have g2 := toksR_tok n l f k last acc hlt h35 hbl
     have g3 := oneD_len (l.drop k)
     rw [List.length_drop] at g3
     generalize txB (l.drop k) = SD at *
     generalize oneD (l.drop k) = o at *
     obtain ⟨ok, ot, on, ol, oe⟩ := o
     unfold tokV at hof
     dsimp only at g1 g2 g3 hof
     have HPl := hid (fun W h => place_c n K (by have := HL.out; omega) w.heap.size W h)
     by_cases hoe : oe = 0
     ·subst hoe
      have HN := hid (show K + (ol : Int) = ((k + ol : Nat) : Int) ∧ k + ol ≤ l.length ∧ acc.length + 1 ≤ k + ol ∧ l.length ≤ (k + ol) + f ∧ toksR n l f (k + ol) (k + ol) (acc ++ [⟨ok, ot, on, n, K + 1⟩]) = R ∧ k < k + ol from ⟨by omega, by have := g3 rfl; omega, by have := g3 rfl; omega, by have := g3 rfl; omega, by rw [← q7, g2 rfl, q1], by have := g3 rfl; omega⟩)
      have HQ3 := hid (show K = k ∧ k < l.length from ⟨q1, hlt⟩)
      have w5 : IntKind.i64.wrap (K + (ol : Int)) = K + (ol : Int) := IntWalk.i64_in _ (by have := HL.out; have := g3 rfl; omega)
      generalize bI (at8 l k) = c at *
      generalize hOL : (ol : Int) = OL at w5 hof
      have HOL := hid hOL.symm
      clear hbl h35 q1 q2 q3 q4 q5 q6 q7 hz hlt g1 g2 g3 HQ
      clear hOL
      go_wp2_with fail
      ((with_reducible refine (HBl.out _).mono ?_); rintro _ q1 ⟨rfl, hb⟩)
      have T : q1.cell? ⟨w.heap.size, 0, none⟩ = some (.int .i64 n) ∧ CF q1 (w.heap.size + 1) 0 (.int .i64 0) ∧ CF q1 (w.heap.size + 1) 1 (.int .i64 0) := by
        refine ⟨?_, ⟨?_, ?_⟩, ⟨?_, ?_⟩⟩ <;> first | (refine kc hb ?_ <;> (go_simp; first | done | rfl)) | (refine kfz hb ?_ ?_ <;> first | (go_size; done) | (go_simp; done))
      have hz := hb.size
      (try simp only [szA] at hz)
      have L : w.heap.size < q1.heap.size ∧ w.heap.size + 1 < q1.heap.size := by omega
      have hB' : Below wr.heap.size wr q1 := by
        refine kb ?_ hb
        go_grown
      clear hb hz
      obtain ⟨hn_0, ⟨hz_0, fz_0⟩, ⟨hz_1, fz_1⟩⟩ := T
      obtain ⟨hln, hlz⟩ := L
      obtain ⟨hnn0, hnn1, hkn1, hnn2, hkn2⟩ := ap0 hln
      obtain ⟨hnz0, hkz1⟩ := ap1 hlz
      have hB := hB'; clear hB'
      have hsz := hB.size
      go_wp2_with fail
      ((with_reducible refine (hof.out _).mono ?_); rintro _ q2 ⟨rfl, hb⟩)
      have T : q2.cell? ⟨w.heap.size, 0, none⟩ = some (.int .i64 n) ∧ CF q2 (w.heap.size + 1) 0 (.int .i64 0) ∧ CF q2 (w.heap.size + 1) 1 (.int .i64 0) := by
        refine ⟨?_, ⟨?_, ?_⟩, ⟨?_, ?_⟩⟩ <;> first | (refine kc hb ?_ <;> (go_simp; first | done | rfl)) | (refine kfz hb ?_ ?_ <;> first | (go_size; done) | (go_simp; done))
      have hz := hb.size
      (try simp only [szA] at hz)
      have L : w.heap.size < q2.heap.size ∧ w.heap.size + 1 < q2.heap.size := by omega
      have hB' : Below wr.heap.size wr q2 := by
        refine kb ?_ hb
        go_grown
      clear hn_0 hz_0 fz_0 hz_1 fz_1 hln hlz hnn0 hnn1 hkn1 hnn2 hkn2 hnz0 hkz1 hB hsz
      clear hb hz
      obtain ⟨hn_0, ⟨hz_0, fz_0⟩, ⟨hz_1, fz_1⟩⟩ := T
      obtain ⟨hln, hlz⟩ := L
      obtain ⟨hnn0, hnn1, hkn1, hnn2, hkn2⟩ := ap0 hln
      obtain ⟨hnz0, hkz1⟩ := ap1 hlz
      have hB := hB'; clear hB'
      have hsz := hB.size
      go_wp2_with fail
      have hq2 := hsz
      ((with_reducible refine (HPl.out _ (by go_simp)).mono ?_); rintro _ q3 ⟨rfl, hb⟩)
      have T : q3.cell? ⟨w.heap.size, 0, none⟩ = some (.int .i64 n) ∧ CF q3 (w.heap.size + 1) 0 (.int .i64 0) ∧ CF q3 (w.heap.size + 1) 1 (.int .i64 0) ∧ CF q3 q2.heap.size 0 (.int .i64 ok) ∧ CF q3 q2.heap.size 1 (.string (txB ot)) ∧ CF q3 q2.heap.size 2 (.int .i64 on) ∧ CF q3 q2.heap.size 3 (.int .i64 0) ∧ CF q3 q2.heap.size 4 (.int .i64 0) := by
        refine ⟨?_, ⟨?_, ?_⟩, ⟨?_, ?_⟩, ⟨?_, ?_⟩, ⟨?_, ?_⟩, ⟨?_, ?_⟩, ⟨?_, ?_⟩, ⟨?_, ?_⟩⟩ <;> first | (refine kc hb ?_ <;> (go_simp; first | done | rfl)) | (refine kfz hb ?_ ?_ <;> first | (go_size; done) | (go_simp; done))
      have hz := hb.size
      (try simp only [szA] at hz)
      have L : w.heap.size < q3.heap.size ∧ w.heap.size + 1 < q3.heap.size ∧ q2.heap.size < q3.heap.size := by omega
      have hB' : Below wr.heap.size wr q3 := by
        refine kb ?_ hb
        go_grown
      clear hn_0 hz_0 fz_0 hz_1 fz_1 hln hlz hnn0 hnn1 hkn1 hnn2 hkn2 hnz0 hkz1 hB hsz
      clear hb hz
      obtain ⟨hn_0, ⟨hz_0, fz_0⟩, ⟨hz_1, fz_1⟩, ⟨ht_0, ft_0⟩, ⟨ht_1, ft_1⟩, ⟨ht_2, ft_2⟩, ⟨ht_3, ft_3⟩, ⟨ht_4, ft_4⟩⟩ := T
      obtain ⟨hln, hlz, hlt⟩ := L
      obtain ⟨hnn0, hnn1, hkn1, hnn2, hkn2⟩ := ap0 hln
      obtain ⟨hnz0, hkz1⟩ := ap1 hlz
      obtain ⟨hnt0, hnt1, hkt1, hnt2, hkt2⟩ := ap0 hlt
      have hB := hB'; clear hB'
      have hsz := hB.size
      have hBs : Below wr.heap.size wr ((q3.setCell ⟨q2.heap.size, 3, none⟩ (.int .i64 n)).setCell ⟨q2.heap.size, 4, none⟩ (.int .i64 (K + 1))) := (hB.setCell (by dsimp only; omega) _).setCell (by dsimp only; omega) _
      go_wp2_with (at_builtin; refine wpList_append_own _ rfl _ _ 56 rfl (w.heap.size + 2) 81 i0 _ 5 48 Tryz.underlying56 hi hz0 hz1 hz2 rfl (by decide) _ acc.length _ rfl (own_below HO.out ?b0) ⟨q3.heap.size, 0, none⟩ 1 1 (cellsT [⟨ok, ot, on, n, K + 1⟩]) rfl rfl ?b1 ?b2 ?b3 ?b4 ?b5 ?_)
      case b0 => exact hBs.alloc (by simp; omega) _
      case b1 =>
       intro j u hu
       have h := cells5_at (W := (q3.setCell ⟨q2.heap.size, 3, none⟩ (.int .i64 n)).setCell ⟨q2.heap.size, 4, none⟩ (.int .i64 (K + 1))) 81 ⟨ok, ot, on, n, K + 1⟩ j u hu
       rw [World.size_setCell, World.size_setCell] at h
       exact h
      case b2 => exact cellsT_one_cell _
      case b3 => have h1 := HN.out.2.1; have h2 := HN.out.2.2.1; have := HL.out; unfold maxLen; omega
      case b4 => have h1 := HN.out.2.1; have h2 := HN.out.2.2.1; have := HL.out; omega
      case b5 => have := HB.out.size; have := hsz; simp; omega
      intro v' w' hown' hg _
      have hBw : Below w.heap.size w w' := Below.grown (HB.out.trans (Below.mono (hBs.alloc (by simp; omega) _) HB.out.size)) hg (by have := HB.out.size; have := hsz; simp; omega) (fun k hk => by have := (HO.out.lt k hk).1; omega)
      have T : w'.cell? ⟨w.heap.size, 0, none⟩ = some (.int .i64 n) ∧ w'.cell? ⟨w.heap.size + 1, 0, none⟩ = some (.int .i64 0) ∧ w'.frozen? ⟨w.heap.size + 1, 0, none⟩ = false ∧ w'.cell? ⟨w.heap.size + 1, 1, none⟩ = some (.int .i64 0) ∧ w'.frozen? ⟨w.heap.size + 1, 1, none⟩ = false :=
       ⟨grown_cell2 HO.out (hBs.alloc (by simp; omega) _) hg (by omega) (by go_simp), grown_cell2 HO.out (hBs.alloc (by simp; omega) _) hg (by omega) (by go_simp), grown_frozen2 HO.out (hBs.alloc (by simp; omega) _) hg (by omega) (by simp; omega) (by go_simp), grown_cell2 HO.out (hBs.alloc (by simp; omega) _) hg (by omega) (by go_simp), grown_frozen2 HO.out (hBs.alloc (by simp; omega) _) hg (by omega) (by simp; omega) (by go_simp)⟩
      have HO' : Hid (w'.ownsRow (w.heap.size + 2) 81 5 v' (acc ++ [Tk.mk ok ot on n (K + 1)]).length (cellsT (acc ++ [Tk.mk ok ot on n (K + 1)]))) := hid (by rw [List.length_append, cellsT_append]; exact hown')
      clear hown' hg hn_0 hz_0 fz_0 hz_1 fz_1
      obtain ⟨hn_0, hz_0, fz_0, hz_1, fz_1⟩ := T
      go_wp2
      go_roundw
      case rel => exact ⟨k + ol, k + ol, f, acc ++ [Tk.mk ok ot on n (K + 1)], K + OL, K + OL, rfl, rfl, hid ⟨by rw [HOL.out]; exact HN.out.1, by rw [HOL.out]; exact HN.out.1, HN.out.2.1, HN.out.2.1, by rw [List.length_append]; exact HN.out.2.2.1, HN.out.2.2.2.1, HN.out.2.2.2.2.1⟩, HO', hn_0, hz_0, fz_0, hz_1, fz_1, hBw⟩
      case measure => have h1 := HOL.out; have h2 := HN.out.1; have h3 := HN.out.2.2.2.2.2; have h4 := HQ3.out.1; have h5 := HQ3.out.2; simp only [intOf]; omega
     ·have HF := hid (show R = ⟨[], n, K + 1, oe⟩ from by rw [← q7, g1 hoe, q1])
      have he2 : (oe != 0) = true := by simp [bne, hoe]
      generalize bI (at8 l k) = c at *
      generalize (ol : Int) = OL at *
      clear hbl h35 q1 q2 q3 q4 q5 q6 q7 hz hlt g1 g2 g3 HQ hoe
      go_wp2_with fail
      ((with_reducible refine (HBl.out _).mono ?_); rintro _ q1 ⟨rfl, hb⟩)
      have T : q1.cell? ⟨w.heap.size, 0, none⟩ = some (.int .i64 n) ∧ CF q1 (w.heap.size + 1) 0 (.int .i64 0) ∧ CF q1 (w.heap.size + 1) 1 (.int .i64 0) := by
        refine ⟨?_, ⟨?_, ?_⟩, ⟨?_, ?_⟩⟩ <;> first | (refine kc hb ?_ <;> (go_simp; first | done | rfl)) | (refine kfz hb ?_ ?_ <;> first | (go_size; done) | (go_simp; done))
      have hz := hb.size
      (try simp only [szA] at hz)
      have L : w.heap.size < q1.heap.size ∧ w.heap.size + 1 < q1.heap.size := by omega
      have hB' : Below wr.heap.size wr q1 := by
        refine kb ?_ hb
        go_grown
      clear hb hz
      obtain ⟨hn_0, ⟨hz_0, fz_0⟩, ⟨hz_1, fz_1⟩⟩ := T
      obtain ⟨hln, hlz⟩ := L
      obtain ⟨hnn0, hnn1, hkn1, hnn2, hkn2⟩ := ap0 hln
      obtain ⟨hnz0, hkz1⟩ := ap1 hlz
      have hB := hB'; clear hB'
      have hsz := hB.size
      go_wp2_with fail
      ((with_reducible refine (hof.out _).mono ?_); rintro _ q2 ⟨rfl, hb⟩)
      have T : q2.cell? ⟨w.heap.size, 0, none⟩ = some (.int .i64 n) ∧ CF q2 (w.heap.size + 1) 0 (.int .i64 0) ∧ CF q2 (w.heap.size + 1) 1 (.int .i64 0) := by
        refine ⟨?_, ⟨?_, ?_⟩, ⟨?_, ?_⟩⟩ <;> first | (refine kc hb ?_ <;> (go_simp; first | done | rfl)) | (refine kfz hb ?_ ?_ <;> first | (go_size; done) | (go_simp; done))
      have hz := hb.size
      (try simp only [szA] at hz)
      have L : w.heap.size < q2.heap.size ∧ w.heap.size + 1 < q2.heap.size := by omega
      have hB' : Below wr.heap.size wr q2 := by
        refine kb ?_ hb
        go_grown
      clear hn_0 hz_0 fz_0 hz_1 fz_1 hln hlz hnn0 hnn1 hkn1 hnn2 hkn2 hnz0 hkz1 hB hsz
      clear hb hz
      obtain ⟨hn_0, ⟨hz_0, fz_0⟩, ⟨hz_1, fz_1⟩⟩ := T
      obtain ⟨hln, hlz⟩ := L
      obtain ⟨hnn0, hnn1, hkn1, hnn2, hkn2⟩ := ap0 hln
      obtain ⟨hnz0, hkz1⟩ := ap1 hlz
      have hB := hB'; clear hB'
      have hsz := hB.size
      go_wp2_with fail
      ((with_reducible refine (HPl.out _ (by go_simp)).mono ?_); rintro _ q3 ⟨rfl, hb⟩)
      have T : q3.cell? ⟨w.heap.size, 0, none⟩ = some (.int .i64 n) ∧ CF q3 (w.heap.size + 1) 0 (.int .i64 0) ∧ CF q3 (w.heap.size + 1) 1 (.int .i64 0) := by
        refine ⟨?_, ⟨?_, ?_⟩, ⟨?_, ?_⟩⟩ <;> first | (refine kc hb ?_ <;> (go_simp; first | done | rfl)) | (refine kfz hb ?_ ?_ <;> first | (go_size; done) | (go_simp; done))
      have hz := hb.size
      (try simp only [szA] at hz)
      have L : w.heap.size < q3.heap.size ∧ w.heap.size + 1 < q3.heap.size := by omega
      have hB' : Below wr.heap.size wr q3 := by
        refine kb ?_ hb
        go_grown
      clear hn_0 hz_0 fz_0 hz_1 fz_1 hln hlz hnn0 hnn1 hkn1 hnn2 hkn2 hnz0 hkz1 hB hsz
      clear hb hz
      obtain ⟨hn_0, ⟨hz_0, fz_0⟩, ⟨hz_1, fz_1⟩⟩ := T
      obtain ⟨hln, hlz⟩ := L
      obtain ⟨hnn0, hnn1, hkn1, hnn2, hkn2⟩ := ap0 hln
      obtain ⟨hnz0, hkz1⟩ := ap1 hlz
      have hB := hB'; clear hB'
      have hsz := hB.size
      go_wp2
      refine bodyPost_ret (v := .tuple #[.slice none 0 0, .agg #[.int .i64 n, .int .i64 (K + 1)], .int .i64 oe]) (by simp [results, Tryz.results54, go_sem, hz_0, hz_1] <;> first | done | rfl) rfl (by rw [HF.out]; exact scanEnd_nil (((HB.out.trans (Below.mono hB HB.out.size)).setCell (by dsimp only; omega) _).setCell (by dsimp only; omega) _))
    ·have HN := hid (show K + 1 = ((k + 1 : Nat) : Int) ∧ k + 1 ≤ l.length ∧ acc.length ≤ k + 1 ∧ l.length ≤ (k + 1) + f ∧ toksR n l f (k + 1) last acc = R from ⟨by omega, by omega, by omega, by omega, by rw [← q7, toksR_blank n l f k last acc hlt h35 hbl]⟩)
     rw [hbl] at HBl
     have w3 : IntKind.i64.wrap (K + 1) = K + 1 := IntWalk.i64_in _ (by have := HL.out; omega)
     generalize bI (at8 l k) = c at *
     have HQ3 := hid (show L = last ∧ last ≤ l.length from ⟨q2, q4⟩)
     clear hbl h35 q1 q2 q3 q4 q5 q6 q7 hz hlt HQ
     go_wp2_with fail
     ((with_reducible refine (HBl.out _).mono ?_); rintro _ q1 ⟨rfl, hb⟩)
     have T : q1.cell? ⟨w.heap.size, 0, none⟩ = some (.int .i64 n) ∧ CF q1 (w.heap.size + 1) 0 (.int .i64 0) ∧ CF q1 (w.heap.size + 1) 1 (.int .i64 0) := by
       refine ⟨?_, ⟨?_, ?_⟩, ⟨?_, ?_⟩⟩ <;> first | (refine kc hb ?_ <;> (go_simp; first | done | rfl)) | (refine kfz hb ?_ ?_ <;> first | (go_size; done) | (go_simp; done))
     have hz := hb.size
     (try simp only [szA] at hz)
     have L : w.heap.size < q1.heap.size ∧ w.heap.size + 1 < q1.heap.size := by omega
     have hB' : Below wr.heap.size wr q1 := by
       refine kb ?_ hb
       go_grown
     clear hb hz
     obtain ⟨hn_0, ⟨hz_0, fz_0⟩, ⟨hz_1, fz_1⟩⟩ := T
     obtain ⟨hln, hlz⟩ := L
     obtain ⟨hnn0, hnn1, hkn1, hnn2, hkn2⟩ := ap0 hln
     obtain ⟨hnz0, hkz1⟩ := ap1 hlz
     have hB := hB'; clear hB'
     have hsz := hB.size
     go_wp2
     go_roundw
     case rel => exact ⟨k + 1, last, f, acc, K + 1, L, rfl, rfl, hid ⟨HN.out.1, HQ3.out.1, HN.out.2.1, HQ3.out.2, HN.out.2.2.1, HN.out.2.2.2.1, HN.out.2.2.2.2⟩, hid (own_below HO.out hB), hn_0, hz_0, fz_0, hz_1, fz_1, HB.out.trans (Below.mono hB HB.out.size)⟩
     case measure => have h1 := HN.out.1; have h2 := HN.out.2.1; simp only [intOf]; omega
  ·have hd : decide (K < (S.size : Int)) = false := decide_eq_false (by omega)
   have HT := hid (show endT n last acc = R from by rw [← q7, toksR_end n l f k last acc (by omega)])
   clear q1 q2 q3 q4 q5 q6 q7 hz hlt
   by_cases ha0 : acc = []
   ·subst ha0
    have HF := hid (show R = ⟨[], 0, 0, 0⟩ from by rw [← HT.out]; rfl)
    clear HT HQ
    go_wp2
    refine bodyPost_ret (v := .tuple #[.slice p 0 cp, .agg #[.int .i64 0, .int .i64 0], .int .i64 0]) (by simp [results, Tryz.results54, go_sem, hz_0, hz_1] <;> first | done | rfl) rfl ⟨_, by rw [HF.out], by rw [HF.out]; exact own_low (own_other (own_other HO.out (by dsimp only; omega)) (by dsimp only; omega)) (by omega), ((HB.out).setCell (by dsimp only; omega) _).setCell (by dsimp only; omega) _⟩
   ·have HF := hid (show R = ⟨acc ++ [⟨4, [], 0, n, (last : Int) + 1⟩], 0, 0, 0⟩ from by rw [← HT.out]; unfold endT; rw [if_neg ha0])
    have c2 : 0 < acc.length := List.length_pos_iff.2 ha0
    have HPl := hid (fun W h => place_c n L (by have := HQ2.out; omega) w.heap.size W h)
    clear HT ha0
    go_wp2_with fail
    ((with_reducible refine (HPl.out _ (by go_simp)).mono ?_); rintro _ q1 ⟨rfl, hb⟩)
    have T : q1.cell? ⟨w.heap.size, 0, none⟩ = some (.int .i64 n) ∧ CF q1 (w.heap.size + 1) 0 (.int .i64 0) ∧ CF q1 (w.heap.size + 1) 1 (.int .i64 0) := by
      refine ⟨?_, ⟨?_, ?_⟩, ⟨?_, ?_⟩⟩ <;> first | (refine kc hb ?_ <;> (go_simp; first | done | rfl)) | (refine kfz hb ?_ ?_ <;> first | (go_size; done) | (go_simp; done))
    have hz := hb.size
    (try simp only [szA] at hz)
    have L : w.heap.size < q1.heap.size ∧ w.heap.size + 1 < q1.heap.size := by omega
    have hB' : Below wr.heap.size wr q1 := by
      refine kb ?_ hb
      go_grown
    clear hb hz
    obtain ⟨hn_0, ⟨hz_0, fz_0⟩, ⟨hz_1, fz_1⟩⟩ := T
    obtain ⟨hln, hlz⟩ := L
    obtain ⟨hnn0, hnn1, hkn1, hnn2, hkn2⟩ := ap0 hln
    obtain ⟨hnz0, hkz1⟩ := ap1 hlz
    have hB := hB'; clear hB'
    have hsz := hB.size
    go_wp2_with (at_builtin; refine wpList_append_own _ rfl _ _ 56 rfl (w.heap.size + 2) 81 i0 _ 5 48 Tryz.underlying56 hi hz0 hz1 hz2 rfl (by decide) _ acc.length _ rfl (own_below HO.out ?c0) ⟨q1.heap.size, 0, none⟩ 1 1 (cellsT [⟨4, [], 0, n, L + 1⟩]) rfl rfl ?c1 ?c2 ?c3 ?c4 ?c5 ?_)
    case c0 => exact hB.alloc hsz _
    case c1 => exact cells5_at (W := q1) 81 ⟨4, [], 0, n, L + 1⟩
    case c2 => exact cellsT_one_cell _
    case c3 => have := HQ2.out; unfold maxLen; omega
    case c4 => have := HQ2.out; omega
    case c5 => have := HB.out.size; simp; omega
    intro v' w' hown' hg _
    have HA := hid (own_below HO.out (hB.alloc hsz (.cells #[.int .i64 4, .string ⟨#[]⟩, .int .i64 0, .int .i64 n, .int .i64 (L + 1)] 81)))
    have hBw : Below w.heap.size w w' := Below.grown ((HB.out.trans (Below.mono hB HB.out.size)).alloc (by have := HB.out.size; omega) _) hg (by have := HB.out.size; simp; omega) (fun k hk => by have := (HO.out.lt k hk).1; omega)
    have T : w'.cell? ⟨w.heap.size + 1, 0, none⟩ = some (.int .i64 0) ∧ w'.frozen? ⟨w.heap.size + 1, 0, none⟩ = false ∧ w'.cell? ⟨w.heap.size + 1, 1, none⟩ = some (.int .i64 0) ∧ w'.frozen? ⟨w.heap.size + 1, 1, none⟩ = false :=
     ⟨grown_cell HA.out hg (by omega) (by go_simp), grown_frozen HA.out hg (by omega) (by simp; omega) (by go_simp), grown_cell HA.out hg (by omega) (by go_simp), grown_frozen HA.out hg (by omega) (by simp; omega) (by go_simp)⟩
    have HO' : Hid (w'.ownsRow (w.heap.size + 2) 81 5 v' R.l.length (cellsT R.l)) := hid (by rw [HF.out]; dsimp only; rw [List.length_append, cellsT_append, ← HQ2.out.1]; exact hown')
    clear hown' hg hz_0 fz_0 hz_1 fz_1
    obtain ⟨hz_0, fz_0, hz_1, fz_1⟩ := T
    go_wp2
    refine bodyPost_ret (v := .tuple #[v', .agg #[.int .i64 0, .int .i64 0], .int .i64 0]) (by simp [results, Tryz.results54, go_sem, hz_0, hz_1] <;> first | done | rfl) rfl ⟨_, by rw [HF.out], own_low (own_other (own_other HO'.out (by dsimp only; omega)) (by dsimp only; omega)) (by omega), (hBw.setCell (by dsimp only; omega) _).setCell (by dsimp only; omega) _⟩
end Go.Proofs.YtjcmblbnbpikfaaGreatDoor
