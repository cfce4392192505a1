/- Layer 6, the library: a text -/
import Derived.Test.YtjcmblbnbpikfaaGreatDoorLines
import Derived.Test.YtjcmblbnbpikfaaGreatDoorShelf
import Derived.Shelf.Strings.SplitShaped
import Derived.Lib.IndexBytes
import Derived.Lib.SplitLaws
import Derived.Test.YtjcmblbnbpikfaaGreatDoorProg3
set_option linter.unusedSimpArgs false
set_option linter.unusedVariables false
set_option maxRecDepth 100000
namespace Go.Proofs.YtjcmblbnbpikfaaGreatDoor
open Lib (hid)
open Go.RowKit Go.PlainAid

theorem linesA_none : ∀ (l cur : List UInt8), (∀ k : Nat, l[k]? ≠ some 10) → linesA cur l = [cur ++ l]
 | [], cur, _ => by rw [List.append_nil]; rfl
 | b :: l, cur, h => by
  have hb : ¬ b = 10 := fun e => h 0 (by rw [e]; rfl)
  show (if _ then _ else _) = _
  rw [if_neg hb, linesA_none l (cur ++ [b]) (fun k => h (k + 1)), List.append_assoc]
  rfl
theorem linesA_some : ∀ (l cur : List UInt8) (o : Nat), l[o]? = some 10 → (∀ k : Nat, k < o → l[k]? ≠ some 10) → linesA cur l = (cur ++ l.take o) :: linesA [] (l.drop (o + 1))
 | [], cur, o, h, _ => by simp at h
 | b :: l, cur, 0, h, _ => by
  have hb : b = 10 := by simpa using h
  show (if _ then _ else _) = _
  rw [if_pos hb]
  simp
 | b :: l, cur, o + 1, h, h2 => by
  have hb : ¬ b = 10 := fun e => h2 0 (by omega) (by rw [e]; rfl)
  show (if _ then _ else _) = _
  rw [if_neg hb, linesA_some l (cur ++ [b]) o (by simpa using h) (fun k hk => by have := h2 (k + 1) (by omega); simpa using this), List.append_assoc]
  rfl
theorem indexB_feed (s : ByteArray) : Lib.indexB s ⟨#[10]⟩ = Lib.indexByte s.data.toList 10 := Lib.index_one s.data.toList 10
theorem split_lines : ∀ (m : Nat) (l : List UInt8), l.length ≤ m → Lib.splitB ⟨#[10]⟩ 0 (Lib.countB (txB l) ⟨#[10]⟩) (txB l) = (linesA [] l).map txB := by
 intro m
 induction m with
 | zero =>
  intro l h
  obtain rfl : l = [] := List.length_eq_zero_iff.1 (by omega)
  have hi : Lib.indexB (txB []) ⟨#[10]⟩ = -1 := by rw [indexB_feed]; rfl
  rw [Lib.splitB_miss _ _ _ _ hi]
  rfl
 | succ m ih =>
  intro l h
  have ht : (txB l).data.toList = l := by simp [txB]
  rcases Lib.indexB_cases (txB l) ⟨#[10]⟩ with hi | ⟨i, hi, hr⟩
  ·rw [Lib.splitB_miss _ _ _ _ hi]
   rw [indexB_feed, ht] at hi
   rw [linesA_none l [] (Lib.indexByte_none hi)]
   rfl
  ·have hz : ByteArray.size ⟨#[10]⟩ = 1 := rfl
   rw [Lib.countB_hit _ _ i (by decide) hi, Nat.add_comm, Lib.splitB_hit _ _ _ _ i hi]
   rw [indexB_feed, ht] at hi
   obtain ⟨h1, h2⟩ := Lib.indexByte_some hi
   rw [txB_size] at hr
   have hr2 : i + 1 ≤ l.length := hr
   have e1 : (txB l).extract 0 (i + 0) = txB (l.take i) := by rw [txB_extract]; simp
   have e2 : (txB l).extract (i + 1) (txB l).size = txB (l.drop (i + 1)) := by rw [txB_extract, txB_size]; simp
   show (txB l).extract 0 (i + 0) :: Lib.splitB ⟨#[10]⟩ 0 (Lib.countB ((txB l).extract (i + 1) (txB l).size) ⟨#[10]⟩) ((txB l).extract (i + 1) (txB l).size) = _
   rw [e1, e2, ih (l.drop (i + 1)) (by rw [List.length_drop]; omega), linesA_some l [] i h1 h2]
   simp
theorem count_feed (s : ByteArray) : Lib.countB s ⟨#[10]⟩ = Lib.countByte s.data.toList 10 := Lib.count_one 10 s.data.toList
set_option maxHeartbeats 1000000 in
theorem split_c (l : List UInt8) (hl : l.length ≤ 100000) (w : World) : Calls Tryz.prog 53 #[.string (txB l), .string ⟨#[10]⟩] w fun e w' => e = .returned (.slice (some ⟨w.heap.size, 0, none⟩) (linesA [] l).length (linesA [] l).length) ∧ w' = w.alloc (.cells ((linesA [] l).map fun x => Value.string (txB x)).toArray 9) := by
 have hs : (txB l).size < 4294967281 := by rw [txB_size]; omega
 have h1 : 1 ≤ ByteArray.size ⟨#[10]⟩ := by decide
 have hi9 : (Tryz.prog.info? 9).map (fun i => (i.zero, i.size, i.bytes)) = some (some (.string ByteArray.empty), 1, 16) := by kernel_rfl
 have hle := Lib.countB_le ⟨#[10]⟩ h1 (txB l).size (txB l) (Nat.le_refl _)
 have hlen := Lib.splitB_all ⟨#[10]⟩ h1 0 _ (txB l) rfl
 have hsp := split_lines l.length l (Nat.le_refl _)
 have c := Any.strings_genSplit_core { Tryz.lays146 with } hi9 (txB l) ⟨#[10]⟩ 0 (-1) (Lib.countB (txB l) ⟨#[10]⟩ + 1) w hs h1 (Nat.zero_le _)
  (fun x cs hx => (Tryz.strings_Index_one x 10 _).mono fun e w' ⟨he, hw⟩ => ⟨by rw [he, indexB_feed], hw⟩)
  ((Tryz.strings_Count_one (txB l) 10 w).mono fun e w' ⟨he, hw⟩ => ⟨by rw [he, count_feed], hw⟩)
  (by decide) (by decide) (by rw [if_pos (by decide)]; omega)
 rw [Nat.add_sub_cancel, hlen] at c
 have hn : Lib.countB (txB l) ⟨#[10]⟩ + 1 = (linesA [] l).length := by rw [← hlen, hsp, List.length_map]
 have e2 : Lib.cellsOf (Lib.splitB ⟨#[10]⟩ 0 (Lib.countB (txB l) ⟨#[10]⟩) (txB l)) (Lib.countB (txB l) ⟨#[10]⟩ + 1) = ((linesA [] l).map fun x => Value.string (txB x)).toArray := by
  rw [hn, hsp, show (linesA [] l).length = ((linesA [] l).map txB).length from by rw [List.length_map], Lib.cellsOf_full, List.map_map]
  rfl
 rw [e2, hn] at c
 generalize (linesA [] l).length = n at *
 generalize ((linesA [] l).map fun x => Value.string (txB x)).toArray = A at *
 generalize txB l = S at *
 have HC := hid c
 clear c e2 hn hsp hlen hle hs
 go_enter Tryz.func53, Tryz.ntmps53
 go_wp2_with (go_at_call 68; refine (HC.out).mono ?_; rintro _ _ ⟨rfl, rfl⟩)
 go_ret
 exact ⟨rfl, rfl⟩
theorem old_cell {w : World} {b n : Nat} {v : Value} (h : w.cell? ⟨b, n, none⟩ = some v) (o : Obj) : (w.alloc o).cell? ⟨b, n, none⟩ = some v := kc (Below.alloc (Below.refl _ _) (Nat.le_refl _) o) h
theorem two_cells {u : World} {b : Nat} {x y : Value} (h0 : u.cell? ⟨b, 0, none⟩ = some x) (h1 : u.cell? ⟨b, 1, none⟩ = some y) :
  (∀ v v2, ((u.setCell ⟨b, 0, none⟩ v).setCell ⟨b, 1, none⟩ v2).cell? ⟨b, 0, none⟩ = some v) ∧ (∀ v v2, ((u.setCell ⟨b, 0, none⟩ v).setCell ⟨b, 1, none⟩ v2).cell? ⟨b, 1, none⟩ = some v2) := by
 have a0 : ∀ v, (u.setCell ⟨b, 0, none⟩ v).cell? ⟨b, 0, none⟩ = some v := fun v => World.cell?_setCell_same u _ v h0
 refine ⟨fun v v2 => ?_, fun v v2 => ?_⟩
 ·rw [World.cell?_setCell_other _ _ _ _ (by simp)]; exact a0 v
 ·exact World.cell?_setCell_same _ _ v2 ((World.cell?_setCell_other u _ _ v (by simp)).trans h1)
theorem linep_c (n : Int) (l : List UInt8) (w : World) : Calls Tryz.prog 54 #[.string (txB l), .int .i64 n] w (ScanEnd 81 w (lineD n l)) := by
 by_cases h : 1000 < l.length
 ·exact linep_long n l h w
 ·exact linep_short n l (by omega) w
def sumL (ls : List (List UInt8)) : Nat := (ls.map fun x => x.length + 1).sum
theorem sumL_lines : ∀ (l cur : List UInt8), sumL (linesA cur l) = cur.length + l.length + 1
 | [], cur => by show (cur.length + 1) + 0 = _; simp
 | b :: l, cur => by
  show sumL (if _ then _ else _) = _
  split
  ·show (cur.length + 1) + sumL (linesA [] l) = _
   rw [sumL_lines l []]
   simp only [List.length_nil, List.length_cons]
   omega
  ·rw [sumL_lines l (cur ++ [b]), List.length_append]
   simp only [List.length_nil, List.length_cons]
   omega
theorem sumL_cons (x : List UInt8) (r : List (List UInt8)) : sumL (x :: r) = x.length + 1 + sumL r := rfl
theorem sumL_len : ∀ ls : List (List UInt8), ls.length ≤ sumL ls
 | [] => Nat.le_refl _
 | x :: r => by have := sumL_len r; rw [sumL_cons, List.length_cons]; omega
theorem toksR_line (n : Int) (l : List UInt8) : ∀ (f k last : Nat) (acc : List Tk), (toksR n l f k last acc).e ≠ 0 → (toksR n l f k last acc).line = n
 | 0, k, last, acc, h => absurd rfl h
 | f + 1, k, last, acc, h => by
  by_cases hlt : k < l.length
  ·by_cases h35 : at8 l k = 35
   ·rw [toksR_remark n l _ k last acc hlt h35] at h; exact absurd rfl h
   ·cases hbl : isBlank (at8 l k)
    ·by_cases he : (oneD (l.drop k)).e = 0
     ·rw [toksR_tok n l f k last acc hlt h35 hbl he] at h ⊢
      exact toksR_line n l f _ _ _ h
     ·rw [toksR_err n l f k last acc hlt h35 hbl he]
    ·rw [toksR_blank n l f k last acc hlt h35 hbl] at h ⊢
     exact toksR_line n l f _ _ _ h
  ·rw [toksR_end n l _ k last acc (by omega)] at h; exact absurd rfl h
theorem lineD_line (n : Int) (l : List UInt8) (h : (lineD n l).e ≠ 0) : (lineD n l).line = n := by
 unfold lineD at h ⊢
 split
 ·rfl
 ·rename_i h2
  rw [if_neg h2] at h
  exact toksR_line n l _ 0 0 [] h
theorem scanD_long (l : List UInt8) (h : 65536 < l.length) : scanD l = ⟨[], 0, 0, 12⟩ := by unfold scanD; rw [if_pos h]
set_option maxHeartbeats 1000000 in
theorem scanp_long (l : List UInt8) (h : 65536 < l.length) (w : World) : Calls Tryz.prog 33 #[.string (txB l)] w (ScanEnd 81 w (scanD l)) := by
 have hd : decide ((65536 : Int) < ((txB l).size : Int)) = true := decide_eq_true (by rw [txB_size]; omega)
 rw [scanD_long l h]
 clear h
 generalize txB l = S at *
 go_enter Tryz.func33, Tryz.ntmps33
 go_wp2
 refine bodyPost_ret (v := .tuple #[.slice none 0 0, .agg #[.int .i64 0, .int .i64 0], .int .i64 12]) (by simp [results, Tryz.results33, go_sem] <;> first | done | rfl) rfl (scanEnd_nil (by go_grown))
set_option maxHeartbeats 4000000 in
theorem scanp_short (l : List UInt8) (h : l.length ≤ 65536) (w : World) : Calls Tryz.prog 33 #[.string (txB l)] w (ScanEnd 81 w (scanD l)) := by
 have hd : decide ((65536 : Int) < ((txB l).size : Int)) = false := decide_eq_false (by rw [txB_size]; omega)
 rw [scanD_short l h]
 obtain ⟨R, hR⟩ : ∃ R, scanR (linesA [] l) 1 [] = R := ⟨_, rfl⟩
 rw [hR]
 have HSp := hid (split_c l (by omega))
 have hsum := sumL_lines l []
 have hsl := sumL_len (linesA [] l)
 obtain ⟨ls, hls⟩ : ∃ ls, linesA [] l = ls := ⟨_, rfl⟩
 rw [hls] at hR HSp hsum hsl
 have HR := hid hR
 have HL := hid (show ls.length ≤ 65537 ∧ sumL ls ≤ 65537 from by simp only [List.length_nil] at hsum; omega)
 clear hR h hsum hsl hls
 generalize txB l = S at *
 obtain ⟨i0, hi, hz0, hz1, hz2⟩ := info_parts Tryz.infoP
 obtain ⟨A, hA⟩ : ∃ A, (ls.map fun x => Value.string (txB x)).toArray = A := ⟨_, rfl⟩
 rw [hA] at HSp
 have HA := hid hA
 clear hA
 go_enter Tryz.func33, Tryz.ntmps33
 go_wp2_with fail
 refine (HSp.out _).mono ?_
 rintro _ _ ⟨rfl, rfl⟩
 go_wp2
 go_loopw [5, 18] (fun v i wr => ∃ (k : Nat) (acc : List Tk), i = .int .i64 (k : Int) ∧ Hid (k ≤ ls.length ∧ scanR (ls.drop k) ((k : Int) + 1) acc = R ∧ acc.length + sumL (ls.drop k) ≤ sumL ls) ∧ Hid (wr.ownsRow (w.heap.size + 2) 81 5 v acc.length (cellsT acc)) ∧ Hid (∀ (j : Nat) x, ls[j]? = some x → wr.cell? ⟨w.heap.size + 1, j, none⟩ = some (.string (txB x))) ∧ w.heap.size + 2 ≤ wr.heap.size ∧ wr.cell? ⟨w.heap.size, 0, none⟩ = some (.int .i64 0) ∧ wr.frozen? ⟨w.heap.size, 0, none⟩ = false ∧ wr.cell? ⟨w.heap.size, 1, none⟩ = some (.int .i64 0) ∧ wr.frozen? ⟨w.heap.size, 1, none⟩ = false ∧ Below w.heap.size w wr) (fun v i _ => ls.length - (intOf i).toNat)
 case atStart =>
  refine ⟨0, [], rfl, hid ⟨by omega, by rw [List.drop_zero]; exact HR.out, by simp⟩, hid (World.ownsRow_nil _ _ _ _), hid ?_, by simp, by go_simp, by go_simp, by go_simp, by go_simp, by go_grown⟩
  intro j x hx
  have hh := heap_alloc_new (w.alloc (.cells #[.int .i64 0, .int .i64 0] 43)) (.cells A 9)
  rw [World.size_alloc] at hh
  simp only [World.cell?, hh]
  rw [← HA.out]
  simp [hx]
 case round =>
  obtain ⟨k, acc, rfl, HQ, HO, HP, hsz0, hz_0, fz_0, hz_1, fz_1, hB⟩ := hrel
  obtain ⟨q1, q2, q3⟩ := HQ.out
  have hl := HL.out
  obtain ⟨p, cp, rfl⟩ := own_form HO.out
  have hlz := klt hz_0
  have HB := hid hB
  have hbr : Below wr.heap.size wr wr := Below.refl _ _
  by_cases hlt : k < ls.length
  ·have hd1 : decide ((k : Int) < (ls.length : Int)) = true := decide_eq_true (by omega)
   have hin : (0 : Int) ≤ (k : Int) ∧ (k : Int) < (ls.length : Int) := by omega
   have hcell := HP.out k ls[k] (List.getElem?_eq_getElem hlt)
   have hdrop : ls.drop k = ls[k] :: ls.drop (k + 1) := List.drop_eq_getElem_cons hlt
   rw [hdrop] at q2 q3
   rw [sumL_cons] at q3
   generalize ls[k] = x at *
   have w1 : IntKind.i64.wrap ((k : Int) + 1) = (k : Int) + 1 := IntWalk.i64_in _ (by omega)
   have HLn := hid (fun W => linep_c ((k : Int) + 1) x W)
   have hol := lineD_len ((k : Int) + 1) x
   have hoe := lineD_nil ((k : Int) + 1) x
   have hol2 := lineD_line ((k : Int) + 1) x
   have g1 := scanR_err x (ls.drop (k + 1)) ((k : Int) + 1) acc
   have g2 := scanR_on x (ls.drop (k + 1)) ((k : Int) + 1) acc
   generalize lineD ((k : Int) + 1) x = o at *
   obtain ⟨oL, oli, oc, oe⟩ := o
   dsimp only at hol hol2 hoe g1 g2
   unfold ScanEnd at HLn
   dsimp only at HLn
   by_cases hE : oe = 0
   ·subst hE
    have HN := hid (show scanR (ls.drop (k + 1)) (((k + 1 : Nat) : Int) + 1) (acc ++ oL) = R ∧ (acc ++ oL).length + sumL (ls.drop (k + 1)) ≤ sumL ls ∧ acc.length + oL.length ≤ 200000 ∧ k + 1 ≤ ls.length from
     ⟨by rw [← q2, g2 rfl, show ((k + 1 : Nat) : Int) = (k : Int) + 1 from by omega], by rw [List.length_append]; omega, by omega, by omega⟩)
    clear g1 g2 hoe hol hol2 q1 q2 q3 hl HQ
    go_wp2_with fail
    ((with_reducible refine (HLn.out _).mono ?_); rintro _ q1 ⟨v, rfl, hown, hb⟩)
    have hs_q1 := hid hb
    have T : CF q1 w.heap.size 0 (.int .i64 0) ∧ CF q1 w.heap.size 1 (.int .i64 0) := by
      refine ⟨⟨?_, ?_⟩, ⟨?_, ?_⟩⟩ <;> first | (refine kc hb ?_ <;> (go_simp; first | done | rfl)) | (refine kfz hb ?_ ?_ <;> first | (go_size; done) | (go_simp; done))
    have hz := hb.size
    (try simp only [szA] at hz)
    have L : w.heap.size < q1.heap.size := by omega
    have hB' : Below wr.heap.size wr q1 := by
      refine kb ?_ hb
      go_grown
    clear hb hz
    obtain ⟨⟨hz_0, fz_0⟩, ⟨hz_1, fz_1⟩⟩ := T
    have hlz := L; clear L
    obtain ⟨hnz0, hnz1, hkz1, hnz2, hkz2⟩ := ap0 hlz
    have hB := hB'; clear hB'
    have hsz := hB.size
    have HV := hid hown
    clear hown
    go_wp2_with (at_builtin; refine wpList_append_row rfl _ _ 56 rfl (w.heap.size + 2) 81 i0 _ 5 48 Tryz.underlying56 hi hz0 hz1 hz2 rfl (by decide) _ acc.length _ rfl (own_below HO.out ?c0) _ v oL.length _ rfl (own_below HV.out ?c1) ?c2 ?c3 ?c4 ?c5 ?_)
    case c0 => exact hB.alloc hsz _
    case c1 => exact (Below.refl _ _).alloc (Nat.le_refl _) _
    case c2 => exact cellsT_one_cell _
    case c3 => have := HN.out.2.2.1; unfold maxLen; omega
    case c4 => have := HN.out.2.2.1; omega
    case c5 => simp; omega
    intro v' w' hown' hg
    have hBa : Below wr.heap.size wr (q1.alloc (.cells #[.int .i64 oli, .int .i64 oc] 43)) := hB.alloc hsz _
    have hBw : Below w.heap.size w w' := Below.grown (HB.out.trans (Below.mono hBa HB.out.size)) hg (by have := HB.out.size; simp; omega) (fun k hk => by have := (HO.out.lt k hk).1; omega)
    have T : w'.cell? ⟨w.heap.size, 0, none⟩ = some (.int .i64 0) ∧ w'.frozen? ⟨w.heap.size, 0, none⟩ = false ∧ w'.cell? ⟨w.heap.size, 1, none⟩ = some (.int .i64 0) ∧ w'.frozen? ⟨w.heap.size, 1, none⟩ = false :=
     ⟨grown_cell2 HO.out hBa hg (by omega) (by go_simp), grown_frozen2 HO.out hBa hg (by omega) (by simp; omega) (by go_simp), grown_cell2 HO.out hBa hg (by omega) (by go_simp), grown_frozen2 HO.out hBa hg (by omega) (by simp; omega) (by go_simp)⟩
    have HP' : Hid (∀ (j : Nat) x, ls[j]? = some x → w'.cell? ⟨w.heap.size + 1, j, none⟩ = some (.string (txB x))) := hid (fun j x hx => grown_cell2 HO.out hBa hg (by omega) (kc hBa (HP.out j x hx)))
    have HO' : Hid (w'.ownsRow (w.heap.size + 2) 81 5 v' (acc ++ oL).length (cellsT (acc ++ oL))) := hid (by rw [List.length_append, cellsT_append]; exact hown')
    have hsz1 : w.heap.size + 2 ≤ w'.heap.size := by have := hg.size; simp at this; omega
    clear hown' hg hz_0 fz_0 hz_1 fz_1 hcell
    obtain ⟨hz_0, fz_0, hz_1, fz_1⟩ := T
    go_wp2
    go_roundw
    case rel => exact ⟨k + 1, acc ++ oL, by go_num, hid ⟨HN.out.2.2.2, HN.out.1, HN.out.2.1⟩, HO', HP', hsz1, hz_0, fz_0, hz_1, fz_1, hBw⟩
    case measure => simp [intOf]; omega
   ·obtain rfl := hoe hE
    obtain rfl := hol2 hE
    have HF := hid (show R = ⟨[], (k : Int) + 1, oc, oe⟩ from by rw [← q2, g1 hE])
    have he2 : (oe != 0) = true := by simp [bne, hE]
    clear g1 g2 hoe hol hol2 q1 q2 q3 hl HQ hE
    go_wp2_with fail
    ((with_reducible refine (HLn.out _).mono ?_); rintro _ q1 ⟨v, rfl, hown, hb⟩)
    have hs_q1 := hid hb
    have T : CF q1 w.heap.size 0 (.int .i64 0) ∧ CF q1 w.heap.size 1 (.int .i64 0) := by
      refine ⟨⟨?_, ?_⟩, ⟨?_, ?_⟩⟩ <;> first | (refine kc hb ?_ <;> (go_simp; first | done | rfl)) | (refine kfz hb ?_ ?_ <;> first | (go_size; done) | (go_simp; done))
    have hz := hb.size
    (try simp only [szA] at hz)
    have L : w.heap.size < q1.heap.size := by omega
    have hB' : Below wr.heap.size wr q1 := by
      refine kb ?_ hb
      go_grown
    clear hb hz
    obtain ⟨⟨hz_0, fz_0⟩, ⟨hz_1, fz_1⟩⟩ := T
    have hlz := L; clear L
    obtain ⟨hnz0, hnz1, hkz1, hnz2, hkz2⟩ := ap0 hlz
    have hB := hB'; clear hB'
    have hsz := hB.size
    clear hown
    go_wp2
    go_region
    all_goals
     go_wp2
     obtain ⟨s0, s1⟩ := two_cells hz_0 hz_1
     refine bodyPost_ret (v := .tuple #[.slice none 0 0, .agg #[.int .i64 ((k : Int) + 1), .int .i64 oc], .int .i64 oe]) (by simp [results, Tryz.results33, go_sem, old_cell (s0 _ _), old_cell (s1 _ _)] <;> first | done | rfl) rfl (by
      rw [HF.out]
      refine scanEnd_nil ?_
      have hBa : Below w.heap.size w q1 := HB.out.trans (Below.mono hB HB.out.size)
      repeat (first | exact hBa | (refine Below.setCell ?_ (by dsimp only; omega) _) | refine Below.drew ?_ | (refine Below.alloc ?_ (by simp; omega) _)))
  ·have hd1 : decide ((k : Int) < (ls.length : Int)) = false := decide_eq_false (by omega)
   have HF := hid (show R = ⟨acc, 0, 0, 0⟩ from by rw [← q2, List.drop_eq_nil_of_le (by omega)]; rfl)
   clear q1 q2 q3 hl HQ
   go_wp2
   refine bodyPost_ret (v := .tuple #[.slice p acc.length cp, .agg #[.int .i64 0, .int .i64 0], .int .i64 0]) (by simp [results, Tryz.results33, go_sem, hz_0, hz_1] <;> first | done | rfl) rfl ⟨_, by rw [HF.out], by rw [HF.out]; exact own_low (own_other (own_other HO.out (by dsimp only; omega)) (by dsimp only; omega)) (by omega), (hB.setCell (by dsimp only; omega) _).setCell (by dsimp only; omega) _⟩
theorem scanp_c (l : List UInt8) (w : World) : Calls Tryz.prog 33 #[.string (txB l)] w (ScanEnd 81 w (scanD l)) := by
 by_cases h : 65536 < l.length
 ·exact scanp_long l h w
 ·exact scanp_short l (by omega) w
end Go.Proofs.YtjcmblbnbpikfaaGreatDoor
