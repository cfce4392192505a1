/-
  Layer 5, lists of letters and bytes alone: the texts of bytes' lines give those bytes again, and the bytes of a text's lines have texts.
-/
import Derived.Test.YtpjpoopgafcedaaDoorListp
import Derived.Test.YtpjpoopgafcedaaDoorAsmp
import Derived.Test.YtpjpoopgafcedaaDoorParsePure
set_option linter.unusedSimpArgs false
set_option linter.unusedVariables false
namespace Go.Proofs.YtpjpoopgafcedaaDoor
open Go.RowKit Go.PlainAid Go.Joins

theorem getD_app (l r : List Int) (j : Nat) (h : j < l.length) : (l ++ r).getD j 0 = l.getD j 0 := by
  rw [List.getD_eq_getElem?_getD, List.getD_eq_getElem?_getD, List.getElem?_append_left h]
theorem readM_app (l r : List Int) (b a : Int) (k : Nat) (hk : k < 13) (h : (readM l b (k : Int) a).e = 0) : readM (l ++ r) b (k : Int) a = readM l b (k : Int) a := by
  have hlm := len_most ⟨k, hk⟩
  dsimp only at hlm
  unfold readM at h ⊢
  by_cases h1 : (l.length : Int) < lenR k
  · rw [if_pos h1] at h; cases h
  · have h2 : ¬ (((l ++ r).length : Int) < lenR k) := by rw [List.length_append]; omega
    rw [if_neg h1, if_neg h2]
    by_cases h3 : (k : Int) = 12
    · rw [if_pos h3, if_pos h3, getD_app l r 1 (by rw [h3] at h1; rw [len_rel] at h1; omega)]
    · rw [if_neg h3, if_neg h3]
      by_cases h4 : lenR k = 1
      · rw [if_pos h4, if_pos h4]
      · rw [if_neg h4, if_neg h4, getD_app l r 1 (by omega)]
        by_cases h5 : lenR k = 2
        · rw [if_pos h5, if_pos h5]
        · rw [if_neg h5, if_neg h5, getD_app l r 2 (by omega)]
/-- What is read of some bytes is read of them with more behind. -/
theorem read_app (l r : List Int) (a : Int) (h : (readD l a).e = 0) : readD (l ++ r) a = readD l a := by
  unfold readD at h ⊢
  by_cases hr : a < 0 ∨ 65535 < a
  · rw [if_pos hr] at h; cases h
  · rw [if_neg hr] at h ⊢
    rw [if_neg hr]
    cases l with
    | nil => cases h
    | cons b l =>
      dsimp only [List.cons_append] at h ⊢
      cases hp : placeL.getD b.toNat none with
      | none => rfl
      | some p =>
        rw [hp] at h
        exact readM_app (b :: l) r b a (p % 13) (Nat.mod_lt _ (by omega)) h
theorem names_no : ∀ r : Fin 56, (nameL.getD r.val []).all (fun x => x != 10) = true := by decide +kernel
theorem ends_no : ∀ m : Fin 13, ((befP m.val).all (fun x => x != 10) && (aftP m.val).all (fun x => x != 10)) = true := by decide +kernel
theorem hexs_no : ∀ d : Fin 16, (hexL d.val != 10) = true := by decide +kernel
theorem digs_no (n : Nat) : ∀ k, (digsL n k).all (fun x => x != 10) = true
  | 0 => rfl
  | k + 1 => by
    unfold digsL
    rw [List.all_cons, digs_no n k, Bool.and_true]
    exact hexs_no ⟨n / 16 ^ k % 16, Nat.mod_lt _ (by omega)⟩
theorem print_no10 (b : Nat) (hb : b < 256) (n : Int) : (printL b n).all (fun x => x != 10) = true := by
  unfold printL
  split
  · unfold textD
    split
    · rename_i p hp
      have h3 := names_no ⟨p / 13, by have := place_bound b hb p hp; omega⟩
      have h4 := tail_is n.toNat (p % 13) (Nat.mod_lt _ (by omega))
      have h5 := ends_no ⟨p % 13, Nat.mod_lt _ (by omega)⟩
      rw [Bool.and_eq_true] at h5
      dsimp only at h3 h5
      rw [List.all_append, h3, h4, List.all_append, List.all_append, h5.1, h5.2, digs_no]
      rfl
    · rfl
  · rfl
theorem print_ne (b : Nat) (hb : b < 256) (n : Int) (h : wrongD b n = 0) : printL b n ≠ [] := by
  obtain ⟨p, hp, _, _⟩ := wrong_zero b n h
  unfold printL
  rw [if_pos h]
  unfold textD
  rw [hp]
  dsimp only
  have h3 := name_len ⟨p / 13, by have := place_bound b hb p hp; omega⟩
  dsimp only at h3
  intro e
  have := congrArg List.length e
  rw [List.length_append, h3] at this
  simp at this
theorem lines_app : ∀ (P s : List UInt8), P.all (fun x => x != 10) = true → linesL (P ++ [10] ++ s) = P :: linesL s
  | [], s, _ => rfl
  | x :: P, s, h => by
    rw [List.all_cons, Bool.and_eq_true] at h
    have hx : ¬ x = 10 := by have := h.1; simpa using this
    have ih := lines_app P s h.2
    show (if x = 10 then _ else _) = _
    rw [if_neg hx]
    show (x :: (linesL (P ++ [10] ++ s)).headD []) :: (linesL (P ++ [10] ++ s)).tail = _
    rw [ih]
    rfl
theorem line_of (b : Nat) (hb : b < 256) (n a : Int) (h : wrongD b n = 0) : lineE (printL b n) a = bytesE b n a ∧ lineL (printL b n) a = bytesL b n a := by
  obtain ⟨e1, e2, e3⟩ := parse_print b hb n h
  have hn := print_ne b hb n h
  have ho : opN (printL b n) = b := by unfold opN; rw [e1]; simp
  unfold lineE lineL
  rw [if_neg hn, if_neg hn, e3, if_neg (by simp), if_neg (by simp), ho, e2]
  exact ⟨rfl, rfl⟩
/-- The texts of bytes' lines give those bytes again. -/
theorem asm_list (l : List Int) (hb : ∀ x ∈ l, 0 ≤ x ∧ x < 256) (a : Int) : ∀ (f pos : Nat) (C : Int), pos ≤ l.length → l.length ≤ pos + f → (listR l a f pos).2.2 = 0 → asmR (linesL (listR l a f pos).1) a (l.take pos) C = (l, 0, 0) := by
  have fin : ∀ (pos : Nat) (C : Int), l.length ≤ pos → asmR (linesL []) a (l.take pos) C = (l, 0, 0) := fun pos C h => by
    show asmR [[]] a (l.take pos) C = _
    rw [asmR_step [] [] a _ C rfl]
    show (l.take pos ++ lineL [] _, (0 : Int), (0 : Int)) = _
    rw [show lineL [] (a + ((l.take pos).length : Int)) = [] from rfl, List.append_nil, List.take_of_length_le h]
  intro f
  induction f with
  | zero => intro pos C h1 h2 h3; exact fin pos C (by omega)
  | succ f ih =>
    intro pos C h1 h2 h3
    by_cases h : l.length ≤ pos
    · rw [listR_end l a (f + 1) pos h]; exact fin pos C h
    · have hbd : ∀ x ∈ l.drop pos, 0 ≤ x ∧ x < 256 := fun x hx => hb x (List.mem_of_mem_drop hx)
      have rk := read_ok (l.drop pos) hbd (a + pos)
      unfold listR at h3 ⊢
      rw [if_neg h] at h3 ⊢
      generalize readD (l.drop pos) (a + pos) = D at *
      obtain ⟨o, n, k, e⟩ := D
      dsimp only at h3 rk ⊢
      by_cases he : e = 0
      · subst he
        obtain ⟨b, K, hb8, rfl, rfl, k1, k2, hw, _, _, hE, hL⟩ := rk rfl
        rw [if_neg (by simp)] at h3 ⊢
        simp only [Int.toNat_natCast] at h3 ⊢
        rw [List.length_drop] at k2
        have hlen : (l.take pos).length = pos := by rw [List.length_take]; omega
        have ihs := ih (pos + K) (C + 1) (by omega) (by omega)
        generalize hs : listR l a f (pos + K) = s at *
        by_cases hs0 : s.2.2 = 0
        · rw [if_neg (by rw [hs0]; simp)]
          dsimp only
          rw [lines_app _ _ (print_no10 b hb8 n)]
          obtain ⟨q1, q2⟩ := line_of b hb8 n (a + pos) hw
          rw [asmR_step _ _ _ _ _ (by rw [hlen, q1, hE]), hlen, q2, hL]
          have ht : l.take pos ++ (l.drop pos).take K = l.take (pos + K) := by rw [List.take_add]
          rw [ht]
          exact ihs hs0
        · rw [if_pos hs0] at h3
          exact absurd h3 hs0
      · rw [if_pos he] at h3
        exact absurd h3 he
theorem list_len (l : List Int) (hb : ∀ x ∈ l, 0 ≤ x ∧ x < 256) (a : Int) : ∀ (f pos : Nat), pos ≤ l.length → (listR l a f pos).1.length ≤ 21 * (l.length - pos) := by
  intro f
  induction f with
  | zero => intro pos _; simp [listR]
  | succ f ih =>
    intro pos h1
    by_cases h : l.length ≤ pos
    · rw [listR_end l a (f + 1) pos h]; simp
    · have hbd : ∀ x ∈ l.drop pos, 0 ≤ x ∧ x < 256 := fun x hx => hb x (List.mem_of_mem_drop hx)
      have rk := read_ok (l.drop pos) hbd (a + pos)
      unfold listR
      rw [if_neg h]
      generalize readD (l.drop pos) (a + pos) = D at *
      obtain ⟨o, n, k, e⟩ := D
      dsimp only at rk ⊢
      by_cases he : e = 0
      · subst he
        obtain ⟨b, K, hb8, rfl, rfl, k1, k2, _⟩ := rk rfl
        rw [if_neg (by simp)]
        simp only [Int.toNat_natCast]
        rw [List.length_drop] at k2
        have ihs := ih (pos + K) (by omega)
        have hp := print_len b hb8 n
        generalize listR l a f (pos + K) = s at *
        by_cases hs0 : s.2.2 = 0
        · rw [if_neg (by rw [hs0]; simp)]
          simp only [List.length_append, List.length_cons, List.length_nil]
          omega
        · rw [if_pos hs0]; simp
      · rw [if_pos he]; simp
/-- The bytes of a text's lines have texts. -/
theorem list_asm (a : Int) (c : List Int) : ∀ (ls : List (List UInt8)) (acc : List Int) (C : Int), asmR ls a acc C = (c, 0, 0) → (∃ t, c = acc ++ t) ∧ ∀ f, c.length ≤ acc.length + f → (listR c a f acc.length).2.2 = 0
  | [], acc, C, h => by
    obtain rfl : acc = c := congrArg (fun r => r.1) h
    exact ⟨⟨[], by simp⟩, fun f _ => by rw [listR_end acc a f acc.length (Nat.le_refl _)]⟩
  | x :: r, acc, C, h => by
    by_cases he : lineE x (a + acc.length) = 0
    · rw [asmR_step x r a acc C he] at h
      obtain ⟨⟨t, ht⟩, ih⟩ := list_asm a c r _ _ h
      refine ⟨⟨lineL x (a + acc.length) ++ t, by rw [ht, List.append_assoc]⟩, fun f hf => ?_⟩
      by_cases hx : lineL x (a + acc.length) = []
      · rw [hx, List.append_nil] at ih
        exact ih f hf
      · have hx0 : x ≠ [] := fun e => hx (by rw [e]; rfl)
        have hp : ¬ parseE x ≠ 0 := fun e => hx (by unfold lineL; rw [if_neg hx0, if_pos e])
        have e1 : lineL x (a + acc.length) = bytesL (opN x) (parseN x) (a + acc.length) := by unfold lineL; rw [if_neg hx0, if_neg hp]
        have e2 : bytesE (opN x) (parseN x) (a + acc.length) = 0 := by unfold lineE at he; rw [if_neg hx0, if_neg hp] at he; exact he
        have hrd := read_bytes (opN x) (opN_is x).1 (parseN x) _ e2
        rw [← e1] at hrd
        have hpos : 0 < (lineL x (a + acc.length)).length := List.length_pos_iff.2 hx
        have hdrop : c.drop acc.length = lineL x (a + acc.length) ++ t := by rw [ht, List.append_assoc, List.drop_left]
        have hra := read_app (lineL x (a + acc.length)) t (a + acc.length) (by rw [hrd])
        rw [hrd, ← hdrop] at hra
        have hcl : c.length = acc.length + (lineL x (a + acc.length)).length + t.length := by rw [ht, List.length_append, List.length_append]
        obtain ⟨f, rfl⟩ : ∃ f', f = f' + 1 := ⟨f - 1, by omega⟩
        have ih2 := ih f (by rw [List.length_append]; omega)
        rw [List.length_append] at ih2
        unfold listR
        rw [if_neg (by omega), hra]
        dsimp only
        rw [if_neg (by simp)]
        simp only [Int.toNat_natCast]
        rw [if_neg (by rw [ih2]; simp)]
    · rw [asmR_err x r a acc C he] at h
      exact absurd (congrArg (fun q => q.2.2) h) he
theorem bytesL_byte (b : Nat) (hb : b < 256) (n a : Int) : ∀ x ∈ bytesL b n a, 0 ≤ x ∧ x < 256 := by
  by_cases h : bytesE b n a = 0
  · cases hp : placeL.getD b none with
    | none => unfold bytesL; rw [hp]; intro x hx; cases hx
    | some p =>
      have eE : bytesEk ((p % 13 : Nat) : Int) n a = 0 := by rw [← h]; unfold bytesE; rw [hp]
      have eL : bytesL b n a = bytesLk b ((p % 13 : Nat) : Int) n a := by unfold bytesL; rw [hp]
      obtain ⟨x1, x2, x3, x4, x5, x6⟩ := bytesk_fit b ((p % 13 : Nat) : Int) n a (by omega) eE
      have hmo := most_hi ((p % 13 : Nat) : Int)
      rw [eL]
      intro x hx
      rcases x6 with ⟨e1, e2, e3, e4⟩ | ⟨e1, e2⟩
      · rw [e2] at hx
        simp at hx
        omega
      · rw [e2] at hx
        split at hx
        · simp at hx; omega
        · split at hx <;> simp at hx <;> omega
  · rw [bytes_nil b n a h]
    intro x hx
    cases hx
theorem line_byte (x : List UInt8) (a : Int) : ∀ y ∈ lineL x a, 0 ≤ y ∧ y < 256 := by
  unfold lineL
  split
  · intro y hy; cases hy
  · split
    · intro y hy; cases hy
    · exact bytesL_byte _ (opN_is x).1 _ _
theorem asm_byte (a : Int) : ∀ (ls : List (List UInt8)) (acc : List Int) (C : Int), (∀ y ∈ acc, 0 ≤ y ∧ y < 256) → ∀ y ∈ (asmR ls a acc C).1, 0 ≤ y ∧ y < 256
  | [], acc, C, h => h
  | x :: r, acc, C, h => by
    by_cases he : lineE x (a + acc.length) = 0
    · rw [asmR_step x r a acc C he]
      refine asm_byte a r _ _ fun y hy => ?_
      rcases List.mem_append.1 hy with h1 | h1
      · exact h y h1
      · exact line_byte x _ y h1
    · rw [asmR_err x r a acc C he]; intro y hy; cases hy
theorem asm_nil (a : Int) : ∀ (ls : List (List UInt8)) (acc : List Int) (C : Int), (asmR ls a acc C).2.2 ≠ 0 → (asmR ls a acc C).1 = []
  | [], acc, C, h => absurd rfl h
  | x :: r, acc, C, h => by
    by_cases he : lineE x (a + acc.length) = 0
    · rw [asmR_step x r a acc C he] at h ⊢
      exact asm_nil a r _ _ h
    · rw [asmR_err x r a acc C he]
theorem asm_zero (a : Int) : ∀ (ls : List (List UInt8)) (acc : List Int) (C : Int), (asmR ls a acc C).2.2 = 0 → (asmR ls a acc C).2.1 = 0
  | [], acc, C, h => rfl
  | x :: r, acc, C, h => by
    by_cases he : lineE x (a + acc.length) = 0
    · rw [asmR_step x r a acc C he] at h ⊢
      exact asm_zero a r _ _ h
    · rw [asmR_err x r a acc C he] at h; exact absurd h he
def sumL (ls : List (List UInt8)) : Nat := (ls.map List.length).sum
theorem lines_sum : ∀ l : List UInt8, sumL (linesL l) ≤ l.length
  | [] => by simp [linesL, sumL]
  | x :: l => by
    have ih := lines_sum l
    obtain ⟨y, r, e⟩ := linesL_ne l
    unfold sumL at ih ⊢
    show ((if x = 10 then [] :: linesL l else (x :: (linesL l).headD []) :: (linesL l).tail).map List.length).sum ≤ _
    split
    · simp; omega
    · rw [e] at ih ⊢
      simp at ih ⊢; omega
theorem asm_len (a : Int) : ∀ (ls : List (List UInt8)) (acc : List Int) (C : Int), (asmR ls a acc C).1.length ≤ acc.length + 3 * sumL ls
  | [], acc, C => by show acc.length ≤ _; omega
  | x :: r, acc, C => by
    by_cases he : lineE x (a + acc.length) = 0
    · rw [asmR_step x r a acc C he]
      have h1 := asm_len a r (acc ++ lineL x (a + acc.length)) (C + 1)
      have h2 := line_len x (a + acc.length)
      rw [List.length_append] at h1
      unfold sumL at h1 ⊢
      rw [List.map_cons, List.sum_cons]
      omega
    · rw [asmR_err x r a acc C he]; simp
end Go.Proofs.YtpjpoopgafcedaaDoor
