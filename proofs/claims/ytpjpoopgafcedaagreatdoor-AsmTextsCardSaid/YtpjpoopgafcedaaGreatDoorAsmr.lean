/-
  Layer 5's document: Assemble.
-/
import Derived.Test.YtpjpoopgafcedaaGreatDoorLines
set_option linter.unusedSimpArgs false
set_option linter.unusedVariables false
namespace Go.Proofs.YtpjpoopgafcedaaGreatDoor
open Go.RowKit Go.PlainAid Go.Joins

def sumT (ls : List (List UInt8)) : Nat := (ls.map List.length).sum
theorem lines_sumT : ∀ l : List UInt8, sumT (linesL l) ≤ l.length
  | [] => by simp [linesL, sumT]
  | x :: l => by
    have ih := lines_sumT l
    obtain ⟨y, r, e⟩ := linesL_ne l
    unfold sumT at ih ⊢
    show ((if x = 10 then [] :: linesL l else (x :: (linesL l).headD []) :: (linesL l).tail).map List.length).sum ≤ _
    split
    · simp; omega
    · rw [e] at ih ⊢
      simp at ih ⊢; omega
theorem asm_lenT (a : Int) : ∀ (ls : List (List UInt8)) (acc : List Int) (C : Int), (asmR ls a acc C).1.length ≤ acc.length + 3 * sumT ls
  | [], acc, C => by show acc.length ≤ _; omega
  | x :: r, acc, C => by
    by_cases he : lineE x (a + acc.length) = 0
    · rw [asmR_step x r a acc C he]
      have h1 := asm_lenT a r (acc ++ lineL x (a + acc.length)) (C + 1)
      have h2 := line_len x (a + acc.length)
      rw [List.length_append] at h1
      unfold sumT at h1 ⊢
      rw [List.map_cons, List.sum_cons]
      omega
    · rw [asmR_err x r a acc C he]; simp
theorem asmR_drop (ls : List (List UInt8)) (k : Nat) (h : k < ls.length) (a : Int) (acc : List Int) (C : Int) : asmR (ls.drop k) a acc C = if lineE ls[k] (a + acc.length) ≠ 0 then ([], C, lineE ls[k] (a + acc.length)) else asmR (ls.drop (k + 1)) a (acc ++ lineL ls[k] (a + acc.length)) (C + 1) := by
  rw [List.drop_eq_getElem_cons h]
  rfl
theorem sum_drop (ls : List (List UInt8)) (k : Nat) (h : k < ls.length) : sumT (ls.drop k) = ls[k].length + sumT (ls.drop (k + 1)) := by
  rw [List.drop_eq_getElem_cons h]
  unfold sumT
  rw [List.map_cons, List.sum_cons]
theorem lines_count : ∀ l : List UInt8, (linesL l).length ≤ l.length + 1
  | [] => by simp [linesL]
  | x :: l => by
    have ih := lines_count l
    obtain ⟨y, r, e⟩ := linesL_ne l
    show (if x = 10 then [] :: linesL l else (x :: (linesL l).headD []) :: (linesL l).tail).length ≤ _
    split
    · simp; omega
    · rw [e] at ih ⊢
      simp at ih ⊢; omega
set_option maxRecDepth 100000 in
set_option maxHeartbeats 8000000 in
theorem asmr_c (l : List UInt8) (h : l.length ≤ 65536) (a : Int) (ha : -9223372036854775808 ≤ a ∧ a ≤ 9223372036854775807) (w : World) : Calls Tryz.prog 6 #[.string (txB l), .int .i64 a] w (AsmEnd w (asmR (linesL l) a [] 1)) := by
  obtain ⟨R, hR⟩ : ∃ R, asmR (linesL l) a [] 1 = R := ⟨_, rfl⟩
  rw [hR]
  have hsum := lines_sumT l
  have hcnt := lines_count l
  have HLi := Lib.hid (fun W => lines_c l (by omega) W)
  have hne : 0 < (linesL l).length := by
    obtain ⟨lx, lr, e⟩ := linesL_ne l
    rw [e]; simp
  generalize linesL l = ls at *
  have HR := Lib.hid hR
  have HZ := Lib.hid (show sumT ls ≤ 65536 ∧ ls.length ≤ 65537 ∧ 0 < ls.length from ⟨by omega, by omega, hne⟩)
  have Ha := Lib.hid ha
  clear hR h ha hsum hcnt hne
  generalize txB l = S at *
  obtain ⟨i0, hi, hz0, hz1, hz2⟩ := info_parts Tryz.infoB
  go_enter Tryz.func6, Tryz.ntmps6
  go_wp2_with fail
  ((with_reducible refine (HLi.out _).mono ?_); rintro _ q ⟨v, rfl, hown, hb⟩)
  have hs_q := Lib.hid hb
  have hz := hb.size
  (try simp only [World.size_alloc, World.size_setCell, World.size_drew] at hz)
  have hB' : Below w.heap.size w q := by
      refine kb ?_ hb
      go_grown
  clear hb hz
  have hB := hB'; clear hB'
  have hsz := hB.size
  obtain ⟨g, cp, rfl, hg⟩ : ∃ g cp, v = .slice (some ⟨g, 0, none⟩) ls.length cp ∧ ∀ k (hk : k < ls.length), q.cell? ⟨g, k, none⟩ = some (.string (txB ls[k])) := by
    have h0 := HZ.out.2.2
    rcases hown.2 with ⟨h1, h2⟩ | ⟨g, cap, cur, rfl, _⟩
    · omega
    · refine ⟨g, cap, rfl, fun k hk => ?_⟩
      rw [hown.cellAt k (by omega), List.getElem?_map, List.getElem?_eq_getElem hk]; rfl
  have HG := Lib.hid hg
  have HBw := Lib.hid hB
  have hszq := hB.size
  clear hown hg hs_q
  go_wp2
  go_loopw [8, 9] (fun v i wr => ∃ (k : Nat) (I : Int) (acc : List Int), i = .int .i64 I ∧ Hid (I = k ∧ k ≤ ls.length ∧ acc.length + 3 * sumT (ls.drop k) ≤ 3 * 65536 ∧ asmR (ls.drop k) a acc (I + 1) = R ∧ (acc = [] ∨ (0 ≤ a ∧ a ≤ 65535))) ∧ Hid (wr.ownsRow q.heap.size 5 1 v acc.length (acc.map (Value.int .u8))) ∧ Below q.heap.size q wr) (fun _ i _ => ls.length - (intOf i).toNat)
  case atStart =>
    have := HZ.out
    exact ⟨0, 0, [], rfl, Lib.hid ⟨rfl, by omega, by rw [List.drop_zero]; simp only [List.length_nil]; omega, by rw [List.drop_zero]; exact HR.out, .inl rfl⟩, Lib.hid (World.ownsRow_nil _ _ _ _), Below.refl _ _⟩
  case round =>
    obtain ⟨k, I, acc, rfl, HQ, HO, hB0⟩ := hrel
    have HB0 := Lib.hid hB0
    obtain ⟨y1, y2, y3, y4, y5⟩ := HQ.out
    have hnr := hB0.size
    obtain ⟨hz1', hz2', hz3'⟩ := HZ.out
    by_cases hlt : k < ls.length
    · have hd : decide (I < (ls.length : Int)) = true := decide_eq_true (by omega)
      obtain ⟨p, c0, rfl⟩ := own_form HO.out
      have r1 : wr.cell? ⟨g, k, none⟩ = some (.string (txB ls[k])) := (hB0.cell (p := ⟨g, k, none⟩) (klt (HG.out k hlt))).trans (HG.out k hlt)
      have hin : (0 : Int) ≤ I ∧ I < (ls.length : Int) := by omega
      have hIk : I.toNat = k := by omega
      have w2 : IntKind.i64.wrap (I + 1) = I + 1 := IntWalk.i64_in _ (by omega)
      rw [asmR_drop ls k hlt] at y4
      rw [sum_drop ls k hlt] at y3
      generalize ls[k] = x at *
      have w1 : IntKind.i64.wrap (a + (acc.length : Int)) = a + acc.length := IntWalk.i64_in _ (by
        have := Ha.out
        rcases y5 with h | h
        · rw [h]; simp only [List.length_nil]; omega
        · omega)
      by_cases hx0 : x = []
      · have e0 : x.isEmpty = true := by rw [hx0]; rfl
        have HN := Lib.hid (show (I + 1 = ((k + 1 : Nat) : Int) ∧ k + 1 ≤ ls.length ∧ acc.length + 3 * sumT (ls.drop (k + 1)) ≤ 3 * 65536 ∧ asmR (ls.drop (k + 1)) a acc (I + 1 + 1) = R ∧ (acc = [] ∨ (0 ≤ a ∧ a ≤ 65535))) from by
          refine ⟨by omega, by omega, by omega, ?_, y5⟩
          rw [← y4, hx0, if_neg (by unfold lineE; simp)]
          unfold lineL
          rw [if_pos rfl, List.append_nil])
        clear y1 y2 y3 y4 y5 hx0
        go_wp2
        go_roundw
        case rel => exact ⟨k + 1, I + 1, acc, rfl, HN, HO, HB0.out⟩
        case measure =>
          obtain ⟨n1, n2, _⟩ := HN.out
          have := HQ.out.1
          simp only [intOf]; omega
      · have e0 : x.isEmpty = false := by
          cases x with
          | nil => exact absurd rfl hx0
          | cons _ _ => rfl
        have HP := Lib.hid (fun W => parse_c x W)
        obtain ⟨ho, hO⟩ := opN_is x
        rw [hO] at HP
        have HBy := Lib.hid (fun W => bytes_c (opN x) ho (parseN x) (a + acc.length) W)
        have hx1 : 0 < x.length := List.length_pos_iff.2 hx0
        have hl3 := bytes_most (opN x) (parseN x) (a + acc.length)
        have hrm := line_room x (a + acc.length)
        have hbr : Below wr.heap.size wr wr := Below.refl _ _
        by_cases hp : parseE x = 0
        · rw [hp] at HP
          have g0 : lineE x (a + acc.length) = bytesE (opN x) (parseN x) (a + acc.length) := by unfold lineE; rw [if_neg hx0, if_neg (by rw [hp]; simp)]
          have g1 : lineL x (a + acc.length) = bytesL (opN x) (parseN x) (a + acc.length) := by unfold lineL; rw [if_neg hx0, if_neg (by rw [hp]; simp)]
          rw [g0, g1] at y4 hrm
          generalize bytesE (opN x) (parseN x) (a + acc.length) = E at *
          generalize bytesL (opN x) (parseN x) (a + acc.length) = L at *
          have HLn := Lib.hid (show L.length ≤ 3 from hl3)
          generalize opN x = o at *
          generalize parseN x = n at *
          by_cases hE0 : E = 0
          · subst hE0
            rw [if_neg (by simp)] at y4
            have HN := Lib.hid (show (I + 1 = ((k + 1 : Nat) : Int) ∧ k + 1 ≤ ls.length ∧ (acc ++ L).length + 3 * sumT (ls.drop (k + 1)) ≤ 3 * 65536 ∧ asmR (ls.drop (k + 1)) a (acc ++ L) (I + 1 + 1) = R ∧ (acc ++ L = [] ∨ (0 ≤ a ∧ a ≤ 65535))) from by
              refine ⟨by omega, by omega, by rw [List.length_append]; omega, y4, ?_⟩
              rcases y5 with h | h
              · rcases hrm rfl with h2 | h2
                · left; rw [h, h2]; rfl
                · right; rw [h] at h2; simp only [List.length_nil] at h2; omega
              · right; exact h)
            clear y1 y2 y3 y4 y5 hx0 hx1 hl3 hrm hp g0 g1 ho hO hB0
            go_wp2_with fail
            ((with_reducible refine (HP.out _).mono ?_); rintro _ u1 ⟨rfl, hb⟩)
            have hz := hb.size
            (try simp only [World.size_alloc, World.size_setCell, World.size_drew] at hz)
            have hB' : Below wr.heap.size wr u1 := by
                refine kb ?_ hb
                go_grown
            clear hB hsz
            clear hb hz
            have hB := hB'; clear hB'
            have hsz := hB.size
            go_wp2_with fail
            refine (HBy.out _).mono ?_
            rintro _ q2 ⟨vb, rfl, hownb, hbb⟩
            have hbb2 : Below wr.heap.size wr q2 := by
              refine kb ?_ hbb
              go_grown
            have hB2 : Below q.heap.size q q2 := HB0.out.trans (Below.mono hbb2 hnr)
            have HO2 := Lib.hid (own_below HO.out hbb2)
            have HBb := Lib.hid hownb
            have hz2b := hbb2.size
            clear hownb hbb2
            go_wp2_with (at_builtin; refine wpList_append_row rfl _ _ 23 rfl q.heap.size 5 i0 (.int .u8 0) 1 1 Tryz.underlying23 hi hz0 hz1 hz2 rfl (by decide) _ acc.length _ rfl HO2.out _ vb L.length _ rfl HBb.out ?c1 ?c2 ?c3 ?c4 ?_)
            case c1 =>
              intro u hu
              simp at hu
              obtain ⟨_, _, rfl⟩ := hu; rfl
            case c2 => have := HQ.out.2.2.1; have := HLn.out; unfold maxLen; omega
            case c3 => have := HQ.out.2.2.1; have := HLn.out; omega
            case c4 => omega
            intro v' w' hown' hg
            have hBw2 : Below q.heap.size q w' := Below.grown (w := q2) hB2 hg (by omega) (fun k hk => (HO2.out.lt k hk).1)
            have HO' : Hid (w'.ownsRow q.heap.size 5 1 v' (acc ++ L).length ((acc ++ L).map (Value.int .u8))) := Lib.hid (by rw [List.length_append, List.map_append]; exact hown')
            clear hown' hg
            go_wp2
            go_roundw
            case rel => exact ⟨k + 1, I + 1, acc ++ L, rfl, HN, HO', hBw2⟩
            case measure =>
              obtain ⟨n1, n2, _⟩ := HN.out
              have := HQ.out.1
              simp only [intOf]; omega
          · have HF := Lib.hid (show R = ([], I + 1, E) from by rw [← y4, if_pos hE0])
            have e2 : (E != 0) = true := by simp [bne, hE0]
            clear y1 y2 y3 y4 y5 hx0 hx1 hl3 hrm hp g0 g1 ho hO hB0 hE0
            go_wp2_with fail
            ((with_reducible refine (HP.out _).mono ?_); rintro _ u1 ⟨rfl, hb⟩)
            have hz := hb.size
            (try simp only [World.size_alloc, World.size_setCell, World.size_drew] at hz)
            have hB' : Below wr.heap.size wr u1 := by
                refine kb ?_ hb
                go_grown
            clear hB hsz
            clear hb hz
            have hB := hB'; clear hB'
            have hsz := hB.size
            go_wp2_with fail
            refine (HBy.out _).mono ?_
            rintro _ q2 ⟨vb, rfl, hownb, hbb⟩
            have hbb2 : Below wr.heap.size wr q2 := by
              refine kb ?_ hbb
              go_grown
            clear hownb
            go_wp2
            refine bodyPost_ret (v := .tuple #[.slice none 0 0, .int .i64 (I + 1), .int .i64 E]) (by simp [results, Tryz.results6, go_sem]) rfl ?_
            rw [HF.out]
            exact asmEnd_nil (HBw.out.trans (Below.mono (HB0.out.trans (Below.mono hbb2 hnr)) hszq))
        · have g0 : lineE x (a + acc.length) = parseE x := by unfold lineE; rw [if_neg hx0, if_pos hp]
          rw [g0] at y4
          generalize opN x = o at *
          generalize parseN x = n at *
          generalize parseE x = E at *
          have HF := Lib.hid (show R = ([], I + 1, E) from by rw [← y4, if_pos hp])
          have e2 : (E != 0) = true := by simp [bne, hp]
          clear y1 y2 y3 y4 y5 hx0 hx1 hl3 hrm hp g0 ho hO hB0 HBy
          go_wp2_with fail
          ((with_reducible refine (HP.out _).mono ?_); rintro _ u1 ⟨rfl, hb⟩)
          have hz := hb.size
          (try simp only [World.size_alloc, World.size_setCell, World.size_drew] at hz)
          have hB' : Below wr.heap.size wr u1 := by
              refine kb ?_ hb
              go_grown
          clear hB hsz
          clear hb hz
          have hB := hB'; clear hB'
          have hsz := hB.size
          go_wp2
          refine bodyPost_ret (v := .tuple #[.slice none 0 0, .int .i64 (I + 1), .int .i64 E]) (by simp [results, Tryz.results6, go_sem]) rfl ?_
          rw [HF.out]
          exact asmEnd_nil (HBw.out.trans (Below.mono (HB0.out.trans (Below.mono (by go_grown : Below wr.heap.size wr _) hnr)) hszq))
    · have hd : decide (I < (ls.length : Int)) = false := decide_eq_false (by omega)
      have HF := Lib.hid (show R = (acc, 0, 0) from by
        rw [← y4, show ls.drop k = [] from List.drop_of_length_le (by omega)]; rfl)
      clear y1 y2 y3 y4 y5 hlt hB0
      go_wp2
      refine bodyPost_ret (v := .tuple #[_, .int .i64 0, .int .i64 0]) (by simp [results, Tryz.results6, go_sem]; rfl) rfl ⟨_, by rw [HF.out], by rw [HF.out]; exact own_low HO.out hszq, HBw.out.trans (Below.mono HB0.out hszq)⟩
end Go.Proofs.YtpjpoopgafcedaaGreatDoor
