/-
  Layer 6: where tokens stand, by lists.
-/
import Derived.Test.YtbnmibkmddhniaaDoorProg4
set_option linter.unusedSimpArgs false
set_option linter.unusedVariables false
namespace Go.Proofs.YtbnmibkmddhniaaDoor
open Go.RowKit Go.PlainAid

/-- Where lines begin, behind the first one. -/
def begL : List UInt8 → Nat → List Nat
  | [], _ => []
  | x :: r, p => if x = 10 then (p + 1) :: begL r (p + 1) else begL r (p + 1)
theorem lines_at : ∀ (r cur : List UInt8) (b0 : Nat) (s : List UInt8), s.drop b0 = cur ++ r → b0 ≤ s.length → ∀ (j : Nat) x, (linesA cur r)[j]? = some x → ∃ b, (b0 :: begL r (b0 + cur.length))[j]? = some b ∧ b + x.length ≤ s.length ∧ (s.drop b).take x.length = x
  | [], cur, b0, s, h, hb, j, x, hx => by
    have hl := congrArg List.length h
    rw [List.length_drop, List.length_append, List.length_nil] at hl
    cases j with
    | zero =>
      obtain rfl : cur = x := by simpa [linesA] using hx
      exact ⟨b0, rfl, by omega, by rw [h, List.append_nil, List.take_of_length_le (Nat.le_refl _)]⟩
    | succ j => simp [linesA] at hx
  | y :: r, cur, b0, s, h, hb, j, x, hx => by
    have hl := congrArg List.length h
    rw [List.length_drop, List.length_append, List.length_cons] at hl
    have hd : s.drop (b0 + cur.length + 1) = r := by
      rw [← List.drop_drop, ← List.drop_drop, h]
      simp
    rw [linesA] at hx
    by_cases hy : y = 10
    · rw [if_pos hy] at hx
      rw [begL, if_pos hy]
      cases j with
      | zero =>
        obtain rfl : cur = x := by simpa using hx
        exact ⟨b0, rfl, by omega, by rw [h]; simp⟩
      | succ j =>
        obtain ⟨b, h1, h2, h3⟩ := lines_at r [] (b0 + cur.length + 1) s hd (by omega) j x (by simpa using hx)
        exact ⟨b, by simpa using h1, h2, h3⟩
    · rw [if_neg hy] at hx
      rw [begL, if_neg hy]
      obtain ⟨b, h1, h2, h3⟩ := lines_at r (cur ++ [y]) b0 s (by rw [h, List.append_assoc]; rfl) hb j x hx
      rw [List.length_append] at h1
      exact ⟨b, h1, h2, h3⟩
/-- What holds of a line's tokens. -/
def TokOK (n : Int) (l : List UInt8) (x : Tk) : Prop := x.line = n ∧ 1 ≤ x.col ∧ x.col - 1 ≤ l.length ∧ (x.k = 1 → x.col - 1 + x.t.length ≤ l.length ∧ (l.drop (x.col - 1).toNat).take x.t.length = x.t) ∧ (x.k = 3 → x.col - 1 + 2 ≤ l.length ∧ (l.drop (x.col - 1).toNat).take 2 = [46, 46])
def Rises (l : List Tk) : Prop := l.Pairwise fun a b => a.line < b.line ∨ a.line = b.line ∧ a.col < b.col
theorem one_text (l : List UInt8) (h : (oneD l).e = 0) : ((oneD l).k = 1 → (oneD l).t = l.take (oneD l).len ∧ (oneD l).t.length = (oneD l).len) ∧ ((oneD l).k = 3 → l.take 2 = [46, 46] ∧ 2 ≤ l.length) := by
  have hlen := oneD_len l h
  unfold oneD at h hlen ⊢
  cases hl : l[0]? with
  | none => rw [hl] at h; cases h
  | some b =>
    rw [hl] at h hlen
    dsimp only at h hlen ⊢
    have num : ∀ base k, (oneNum base l k).e = 0 → (oneNum base l k).k = 2 := fun base k h => by
      unfold oneNum at h ⊢
      dsimp only at h ⊢
      split at h
      · cases h
      · rename_i h1
        rw [if_neg h1]
        split at h
        · cases h
        · rename_i h2
          rw [if_neg h2]
    by_cases c1 : isLet b = true
    · rw [if_pos c1] at h hlen ⊢
      unfold oneWord at h hlen ⊢
      dsimp only at h hlen ⊢
      split at h
      · cases h
      · rename_i h1
        rw [if_neg h1] at hlen ⊢
        dsimp only at hlen ⊢
        exact ⟨fun _ => ⟨rfl, by rw [List.length_take]; omega⟩, (fun h => by cases h)⟩
    · rw [if_neg c1] at h hlen ⊢
      by_cases c2 : b = 46
      · rw [if_pos c2] at h hlen ⊢
        split at h
        · rename_i h1
          rw [if_pos h1]
          refine ⟨(fun h => by cases h), fun _ => ?_⟩
          have hz := (List.getElem?_eq_some_iff.1 h1).1
          refine ⟨?_, by omega⟩
          match l, hl, h1 with
          | x :: y :: r, hl, h1 =>
            simp at hl h1
            rw [hl, h1, c2]
            rfl
        · cases h
      · rw [if_neg c2] at h hlen ⊢
        by_cases c3 : b = 36
        · rw [if_pos c3] at h hlen ⊢
          have := num 16 1 h
          exact ⟨(fun h => by omega), (fun h => by omega)⟩
        · rw [if_neg c3] at h hlen ⊢
          by_cases c4 : isDig 10 b = true
          · rw [if_pos c4] at h hlen ⊢
            have := num 10 0 h
            exact ⟨(fun h => by omega), (fun h => by omega)⟩
          · rw [if_neg c4] at h; cases h
theorem endT_ok (n : Int) (l : List UInt8) (last : Nat) (acc : List Tk) (hl : last ≤ l.length) (ha : ∀ x ∈ acc, TokOK n l x ∧ x.col ≤ last) (hr : Rises acc) : (∀ x ∈ (endT n last acc).l, TokOK n l x) ∧ Rises (endT n last acc).l := by
  unfold endT
  dsimp only
  split
  · exact ⟨(fun x h => by cases h), List.Pairwise.nil⟩
  · refine ⟨fun x hx => ?_, ?_⟩
    · rcases List.mem_append.1 hx with h | h
      · exact (ha x h).1
      · obtain rfl : x = ⟨4, [], 0, n, (last : Int) + 1⟩ := by simpa using h
        exact ⟨rfl, by dsimp only; omega, by dsimp only; omega, (fun h => by cases h), (fun h => by cases h)⟩
    · refine List.pairwise_append.2 ⟨hr, List.pairwise_singleton _ _, fun x hx y hy => ?_⟩
      obtain rfl : y = ⟨4, [], 0, n, (last : Int) + 1⟩ := by simpa using hy
      have := ha x hx
      exact .inr ⟨this.1.1, by dsimp only; omega⟩
theorem toksR_ok (n : Int) (l : List UInt8) : ∀ (f k last : Nat) (acc : List Tk), k ≤ l.length → last ≤ k → (∀ x ∈ acc, TokOK n l x ∧ x.col ≤ last) → Rises acc → (toksR n l f k last acc).e = 0 → (∀ x ∈ (toksR n l f k last acc).l, TokOK n l x) ∧ Rises (toksR n l f k last acc).l
  | 0, k, last, acc, hk, hl, ha, hr, h => endT_ok n l last acc (by omega) ha hr
  | f + 1, k, last, acc, hk, hl, ha, hr, h => by
    by_cases hlt : k < l.length
    · by_cases h35 : at8 l k = 35
      · rw [toksR_remark n l _ k last acc hlt h35]
        exact endT_ok n l last acc (by omega) ha hr
      · cases hbl : isBlank (at8 l k)
        · by_cases he : (oneD (l.drop k)).e = 0
          · rw [toksR_tok n l f k last acc hlt h35 hbl he] at h ⊢
            have hlen := oneD_len (l.drop k) he
            have htx := one_text (l.drop k) he
            rw [List.length_drop] at hlen htx
            refine toksR_ok n l f _ _ _ (by omega) (by omega) ?_ ?_ h
            · intro x hx
              rcases List.mem_append.1 hx with h | h
              · have := ha x h
                exact ⟨this.1, by have := this.2; omega⟩
              · obtain rfl : x = ⟨(oneD (l.drop k)).k, (oneD (l.drop k)).t, (oneD (l.drop k)).n, n, (k : Int) + 1⟩ := by simpa using h
                refine ⟨⟨rfl, by dsimp only; omega, by dsimp only; omega, fun h => ?_, fun h => ?_⟩, by dsimp only; omega⟩
                · dsimp only at h ⊢
                  obtain ⟨t1, t2⟩ := htx.1 h
                  rw [t2, t1, show ((k : Int) + 1 - 1).toNat = k from by omega]
                  exact ⟨by omega, rfl⟩
                · dsimp only at h ⊢
                  obtain ⟨t1, t2⟩ := htx.2 h
                  rw [show ((k : Int) + 1 - 1).toNat = k from by omega]
                  exact ⟨by omega, t1⟩
            · refine List.pairwise_append.2 ⟨hr, List.pairwise_singleton _ _, fun x hx y hy => ?_⟩
              obtain rfl : y = ⟨(oneD (l.drop k)).k, (oneD (l.drop k)).t, (oneD (l.drop k)).n, n, (k : Int) + 1⟩ := by simpa using hy
              have := ha x hx
              exact .inr ⟨this.1.1, by dsimp only; omega⟩
          · rw [toksR_err n l f k last acc hlt h35 hbl he] at h
            exact absurd h he
        · rw [toksR_blank n l f k last acc hlt h35 hbl] at h ⊢
          exact toksR_ok n l f _ _ _ (by omega) (by omega) ha hr h
    · rw [toksR_end n l _ k last acc (by omega)]
      exact endT_ok n l last acc (by omega) ha hr
theorem lineD_ok (n : Int) (l : List UInt8) (h : (lineD n l).e = 0) : (∀ x ∈ (lineD n l).l, TokOK n l x) ∧ Rises (lineD n l).l := by
  unfold lineD at h ⊢
  split
  · rename_i h2; rw [if_pos h2] at h; cases h
  · rename_i h2
    rw [if_neg h2] at h
    exact toksR_ok n l _ 0 0 [] (by omega) (by omega) (fun x h => by cases h) List.Pairwise.nil h
theorem scanR_ok (ls : List (List UInt8)) : ∀ (r : List (List UInt8)) (k : Nat) (acc : List Tk), ls.drop k = r → (∀ x ∈ acc, (x.line ≤ k) ∧ ∃ (j : Nat) (l : List UInt8), ls[j]? = some l ∧ x.line = (j : Int) + 1 ∧ TokOK ((j : Int) + 1) l x) → Rises acc → (scanR r ((k : Int) + 1) acc).e = 0 →
    (∀ x ∈ (scanR r ((k : Int) + 1) acc).l, ∃ (j : Nat) (l : List UInt8), ls[j]? = some l ∧ x.line = (j : Int) + 1 ∧ TokOK ((j : Int) + 1) l x) ∧ Rises (scanR r ((k : Int) + 1) acc).l
  | [], k, acc, hd, ha, hr, h => ⟨fun x hx => (ha x hx).2, hr⟩
  | y :: r, k, acc, hd, ha, hr, h => by
    have hk : k < ls.length := by
      have := congrArg List.length hd
      rw [List.length_drop, List.length_cons] at this
      omega
    have hy : ls[k]? = some y := by
      rw [List.getElem?_eq_getElem hk]
      rw [List.drop_eq_getElem_cons hk] at hd
      rw [(List.cons.inj hd).1]
    have hd2 : ls.drop (k + 1) = r := by
      rw [List.drop_eq_getElem_cons hk] at hd
      exact (List.cons.inj hd).2
    by_cases he : (lineD ((k : Int) + 1) y).e = 0
    · rw [scanR_on y r _ acc he] at h ⊢
      have hok := lineD_ok ((k : Int) + 1) y he
      have hc : ((k : Int) + 1 + 1) = ((k + 1 : Nat) : Int) + 1 := by omega
      rw [hc] at h ⊢
      refine scanR_ok ls r (k + 1) _ hd2 ?_ ?_ h
      · intro x hx
        rcases List.mem_append.1 hx with h1 | h1
        · have := ha x h1
          exact ⟨by have := this.1; omega, this.2⟩
        · have := hok.1 x h1
          exact ⟨by have := this.1; omega, k, y, hy, this.1, this⟩
      · refine List.pairwise_append.2 ⟨hr, hok.2, fun x hx z hz => ?_⟩
        have h1 := (ha x hx).1
        have h2 := (hok.1 z hz).1
        exact .inl (by omega)
    · rw [scanR_err y r _ acc he] at h
      exact absurd h he
/-- What holds of each token of a text. -/
theorem places (s : List UInt8) (hs : s.length ≤ 65536) (h : (scanD s).e = 0) (i : Nat) (x : Tk) (hx : (scanD s).l[i]? = some x) :
    ∃ (b at' : Nat), 1 ≤ x.line ∧ x.line ≤ (0 :: begL s 0).length ∧ 1 ≤ x.col ∧ (0 :: begL s 0)[(x.line - 1).toNat]? = some b ∧ (b : Int) + x.col - 1 = (at' : Int) ∧ at' ≤ s.length ∧
      (x.k = 1 → at' + x.t.length ≤ s.length ∧ (s.drop at').take x.t.length = x.t) ∧ (x.k = 3 → at' + 2 ≤ s.length ∧ (s.drop at').take 2 = [46, 46]) := by
  rw [scanD_short s hs] at h hx
  have hok := scanR_ok (linesA [] s) (linesA [] s) 0 [] (List.drop_zero) (fun x h => by cases h) List.Pairwise.nil h
  obtain ⟨j, l, hl, hline, hT⟩ := hok.1 x (List.mem_of_getElem? hx)
  obtain ⟨b, hb, hb2, hb3⟩ := lines_at s [] 0 s (by simp) (by omega) j l hl
  obtain ⟨t1, t2, t3, t4, t5⟩ := hT
  have hj : (x.line - 1).toNat = j := by omega
  have hjl := (List.getElem?_eq_some_iff.1 hb).1
  simp only [List.length_nil, Nat.add_zero] at hb hjl
  refine ⟨b, b + (x.col - 1).toNat, by omega, by omega, t2, by rw [hj]; exact hb, by omega, by omega, fun hk => ?_, fun hk => ?_⟩
  · obtain ⟨u1, u2⟩ := t4 hk
    refine ⟨by omega, ?_⟩
    rw [← List.drop_drop]
    rw [← hb3, List.drop_take, List.take_take, Nat.min_eq_left (by omega)] at u2
    exact u2
  · obtain ⟨u1, u2⟩ := t5 hk
    refine ⟨by omega, ?_⟩
    rw [← List.drop_drop]
    rw [← hb3, List.drop_take, List.take_take, Nat.min_eq_left (by omega)] at u2
    exact u2
theorem rising (s : List UInt8) (hs : s.length ≤ 65536) (h : (scanD s).e = 0) (i : Nat) (x y : Tk) (hy : (scanD s).l[i]? = some y) (hx : (scanD s).l[i + 1]? = some x) : y.line < x.line ∨ y.line = x.line ∧ y.col < x.col := by
  rw [scanD_short s hs] at h hx hy
  have hok := scanR_ok (linesA [] s) (linesA [] s) 0 [] (List.drop_zero) (fun x h => by cases h) List.Pairwise.nil h
  obtain ⟨h1, rfl⟩ := List.getElem?_eq_some_iff.1 hy
  obtain ⟨h2, rfl⟩ := List.getElem?_eq_some_iff.1 hx
  exact List.pairwise_iff_getElem.1 hok.2 i (i + 1) h1 h2 (by omega)
theorem begL_len : ∀ (s : List UInt8) (p : Nat), (begL s p).length ≤ s.length
  | [], _ => Nat.le_refl _
  | x :: r, p => by
    have := begL_len r (p + 1)
    rw [begL]
    split
    · rw [List.length_cons, List.length_cons]; omega
    · rw [List.length_cons]; omega
theorem scanR_nil : ∀ (r : List (List UInt8)) (n : Int) (acc : List Tk), (scanR r n acc).e ≠ 0 → (scanR r n acc).l = []
  | [], n, acc, h => absurd rfl h
  | y :: r, n, acc, h => by
    by_cases he : (lineD n y).e = 0
    · rw [scanR_on y r _ acc he] at h ⊢
      exact scanR_nil r _ _ h
    · rw [scanR_err y r _ acc he]
theorem scanD_nil (l : List UInt8) (h : (scanD l).e ≠ 0) : (scanD l).l = [] := by
  unfold scanD at h ⊢
  split
  · rfl
  · rename_i h2
    rw [if_neg h2] at h
    exact scanR_nil _ _ _ h
end Go.Proofs.YtbnmibkmddhniaaDoor
