/-
  Layer 6: remarks and blanks, by lists.
-/
import Derived.Test.YtbnmibkmddhniaaDoorSplit
import Derived.Test.YtbnmibkmddhniaaDoorRef1
set_option linter.unusedSimpArgs false
set_option linter.unusedVariables false
namespace Go.Proofs.YtbnmibkmddhniaaDoor
open Go.RowKit Go.PlainAid

def bareT (x : Tk) : Int × List UInt8 × Int := (x.k, x.t, x.n)
/-- Two ends that are the same but for places. -/
def Alike2 (a b : Out) : Prop := a.e = b.e ∧ a.l.map bareT = b.l.map bareT
/-- A byte with which nothing goes on. -/
def stops (h : UInt8) : Prop := isLet h = false ∧ isDig 16 h = false ∧ isDig 10 h = false ∧ isGlue h = false ∧ h ≠ 46
theorem runL_app (p : UInt8 → Bool) (u : List UInt8) (h : UInt8) (t : List UInt8) (hp : p h = false) (k : Nat) (hk : k ≤ u.length) : runL p (u ++ h :: t) k = runL p u k := by
  unfold runL
  rw [List.drop_append_of_le_length hk]
  congr 1
  generalize u.drop k = v
  induction v with
  | nil => rw [List.nil_append, List.takeWhile_cons_of_neg (by rw [hp]; simp)]; rfl
  | cons x v ih =>
    rw [List.cons_append]
    cases hx : p x
    · rw [List.takeWhile_cons_of_neg (by rw [hx]; simp), List.takeWhile_cons_of_neg (by rw [hx]; simp)]
    · rw [List.takeWhile_cons_of_pos hx, List.takeWhile_cons_of_pos hx, List.length_cons, List.length_cons, ih]
theorem glueAt_app (u : List UInt8) (h : UInt8) (t : List UInt8) (hg : isGlue h = false) (k : Nat) (hk : k ≤ u.length) : glueAt (u ++ h :: t) k = glueAt u k := by
  unfold glueAt
  by_cases hlt : k < u.length
  · rw [List.getElem?_append_left hlt]
  · obtain rfl : k = u.length := by omega
    rw [List.getElem?_append_right (Nat.le_refl _), Nat.sub_self, List.getElem?_eq_none (Nat.le_refl _)]
    exact hg
theorem numV_app (base : Nat) (h : UInt8) (t : List UInt8) (hp : isDig base h = false) : ∀ (u : List UInt8) (n : Int), numV base (u ++ h :: t) n = numV base u n
  | [], n => by
    show (if _ then _ else _) = _
    rw [hp]
    rfl
  | x :: u, n => by
    show (if _ then _ else _) = (if _ then _ else _)
    split
    · exact numV_app base h t hp u _
    · rfl
theorem oneNum_app (base : Nat) (u : List UInt8) (h : UInt8) (t : List UInt8) (hd : isDig base h = false) (hg : isGlue h = false) (k : Nat) (hk : k ≤ u.length) : oneNum base (u ++ h :: t) k = oneNum base u k := by
  unfold oneNum
  dsimp only
  rw [runL_app _ u h t hd k hk, glueAt_app u h t hg _ (runL_le _ u k hk), List.drop_append_of_le_length hk, numV_app base h t hd]
theorem oneD_app (u : List UInt8) (h : UInt8) (t : List UInt8) (hs : stops h) (hu : 0 < u.length) : oneD (u ++ h :: t) = oneD u := by
  obtain ⟨s1, s2, s3, s4, s5⟩ := hs
  unfold oneD
  rw [List.getElem?_append_left hu, List.getElem?_eq_getElem hu]
  dsimp only
  have hword : oneWord (u ++ h :: t) = oneWord u := by
    unfold oneWord
    dsimp only
    have h1 := runL_le isLet u 0 (by omega)
    rw [runL_app _ u h t s1 0 (by omega), glueAt_app u h t s4 _ h1, List.take_append_of_le_length h1]
  have hdot : ((u ++ h :: t)[1]? = some 46) = (u[1]? = some 46) := by
    by_cases h1 : 1 < u.length
    · rw [List.getElem?_append_left h1]
    · have e1 : u.length = 1 := by omega
      have e2 : u[1]? = none := List.getElem?_eq_none (by omega)
      rw [List.getElem?_append_right (by omega), e1, e2]
      simp
      exact s5
  rw [hword, oneNum_app 16 u h t s2 s4 1 hu, oneNum_app 10 u h t s3 s4 0 (by omega)]
  simp only [hdot]
/-- Blanks, then a remark: what stands behind the last token. -/
def Tail (q : List UInt8) : Prop := ∃ z r, q = z ++ 35 :: r ∧ ∀ b ∈ z, isBlank b = true
theorem blank_stops (b : UInt8) (h : isBlank b = true) : stops b := by
  have : b = 32 ∨ b = 9 := by unfold isBlank at h; simpa using h
  rcases this with rfl | rfl <;> exact ⟨by decide, by decide, by decide, by decide, by decide⟩
theorem tail_head (q : List UInt8) (h : Tail q) : ∃ b t, q = b :: t ∧ stops b := by
  obtain ⟨z, r, rfl, hz⟩ := h
  cases z with
  | nil => exact ⟨35, r, rfl, by decide, by decide, by decide, by decide, by decide⟩
  | cons b z => exact ⟨b, z ++ 35 :: r, rfl, blank_stops b (hz b (by simp))⟩
theorem blank_ne (b : UInt8) (h : isBlank b = true) : b ≠ 35 := by
  have : b = 32 ∨ b = 9 := by unfold isBlank at h; simpa using h
  rcases this with rfl | rfl <;> decide
/-- Behind all tokens. -/
theorem toksR_tail (n : Int) (l : List UInt8) : ∀ (z r : List UInt8) (f k last : Nat) (acc : List Tk), l.drop k = z ++ 35 :: r → (∀ b ∈ z, isBlank b = true) → l.length ≤ k + f → toksR n l f k last acc = endT n last acc
  | [], r, f, k, last, acc, hd, hz, hf => by
    have hl := congrArg List.length hd
    rw [List.length_drop, List.nil_append, List.length_cons] at hl
    refine toksR_remark n l f k last acc (by omega) ?_
    have := at8_drop l k 0
    rw [hd, Nat.add_zero] at this
    rw [← this]; rfl
  | b :: z, r, f, k, last, acc, hd, hz, hf => by
    have hl := congrArg List.length hd
    rw [List.length_drop, List.cons_append, List.length_cons] at hl
    have hb : at8 l k = b := by
      have := at8_drop l k 0
      rw [hd, Nat.add_zero] at this
      rw [← this]; rfl
    obtain ⟨f, rfl⟩ : ∃ f', f = f' + 1 := ⟨f - 1, by omega⟩
    rw [toksR_blank n l f k last acc (by omega) (by rw [hb]; exact blank_ne b (hz b (by simp))) (by rw [hb]; exact hz b (by simp))]
    refine toksR_tail n l z r f (k + 1) last acc ?_ (fun c hc => hz c (by simp [hc])) (by omega)
    rw [← List.drop_drop, hd]
    rfl
theorem endT_alike (n m : Int) (last last' : Nat) (acc acc' : List Tk) (h : acc'.map bareT = acc.map bareT) : Alike2 (endT n last' acc') (endT m last acc) := by
  unfold endT
  refine ⟨rfl, ?_⟩
  dsimp only
  have : acc' = [] ↔ acc = [] := by
    have h1 := congrArg List.length h
    rw [List.length_map, List.length_map] at h1
    rw [← List.length_eq_zero_iff, ← List.length_eq_zero_iff, h1]
  by_cases ha : acc = []
  · rw [if_pos ha, if_pos (this.2 ha)]
  · rw [if_neg ha, if_neg (fun h => ha (this.1 h)), List.map_append, List.map_append, h]
    rfl
theorem toks_sim (n m : Int) (bl x q : List UInt8) (hq : Tail q) : ∀ (f k f' last last' : Nat) (acc acc' : List Tk), k ≤ x.length → x.length ≤ k + f → (bl ++ x ++ q).length ≤ bl.length + k + f' → acc'.map bareT = acc.map bareT →
    Alike2 (toksR n (bl ++ x ++ q) f' (bl.length + k) last' acc') (toksR m x f k last acc) := by
  intro f
  induction f with
  | zero =>
    intro k f' last last' acc acc' hk hf hf' ha
    obtain rfl : k = x.length := by omega
    obtain ⟨z, r, hz, hzb⟩ := hq
    rw [toksR_tail n _ z r f' _ last' acc' (by rw [← hz, ← List.length_append, List.drop_left]) hzb hf', toksR_end m x 0 _ last acc (Nat.le_refl _)]
    exact endT_alike n m last last' acc acc' ha
  | succ f ih =>
    intro k f' last last' acc acc' hk hf hf' ha
    by_cases hlt : k < x.length
    · have hY : at8 (bl ++ x ++ q) (bl.length + k) = at8 x k := by
        have h1 := at8_drop (bl ++ x ++ q) bl.length k
        rw [List.append_assoc, List.drop_left, ← List.append_assoc] at h1
        rw [← h1]
        unfold at8
        rw [List.getD_eq_getElem?_getD, List.getD_eq_getElem?_getD, List.getElem?_append_left hlt]
      have hYl : bl.length + k < (bl ++ x ++ q).length := by rw [List.length_append, List.length_append]; omega
      have hYd : (bl ++ x ++ q).drop (bl.length + k) = x.drop k ++ q := by
        rw [← List.drop_drop, List.append_assoc, List.drop_left, List.drop_append_of_le_length (by omega)]
      obtain ⟨f', rfl⟩ : ∃ f2, f' = f2 + 1 := ⟨f' - 1, by omega⟩
      by_cases h35 : at8 x k = 35
      · rw [toksR_remark m x _ k last acc hlt h35, toksR_remark n _ _ _ last' acc' hYl (by rw [hY]; exact h35)]
        exact endT_alike n m last last' acc acc' ha
      · cases hbl : isBlank (at8 x k)
        · obtain ⟨b, t, hb, hs⟩ := tail_head q hq
          have hone : oneD ((bl ++ x ++ q).drop (bl.length + k)) = oneD (x.drop k) := by
            rw [hYd, hb]
            exact oneD_app _ b t hs (by rw [List.length_drop]; omega)
          by_cases he : (oneD (x.drop k)).e = 0
          · rw [toksR_tok m x f k last acc hlt h35 hbl he, toksR_tok n _ f' _ last' acc' hYl (by rw [hY]; exact h35) (by rw [hY]; exact hbl) (by rw [hone]; exact he), hone]
            have hlen := oneD_len (x.drop k) he
            rw [List.length_drop] at hlen
            rw [Nat.add_assoc]
            refine ih _ _ _ _ _ _ (by omega) (by omega) (by omega) ?_
            rw [List.map_append, List.map_append, ha]
            rfl
          · rw [toksR_err m x f k last acc hlt h35 hbl he, toksR_err n _ f' _ last' acc' hYl (by rw [hY]; exact h35) (by rw [hY]; exact hbl) (by rw [hone]; exact he), hone]
            exact ⟨rfl, rfl⟩
        · rw [toksR_blank m x f k last acc hlt h35 hbl, toksR_blank n _ f' _ last' acc' hYl (by rw [hY]; exact h35) (by rw [hY]; exact hbl), Nat.add_assoc]
          exact ih _ _ _ _ _ _ (by omega) (by omega) (by omega) ha
    · obtain rfl : k = x.length := by omega
      obtain ⟨z, r, hz, hzb⟩ := hq
      rw [toksR_tail n _ z r f' _ last' acc' (by rw [← hz, ← List.length_append, List.drop_left]) hzb hf', toksR_end m x _ _ last acc (Nat.le_refl _)]
      exact endT_alike n m last last' acc acc' ha
/-- Blanks ahead of all tokens. -/
theorem toksR_ahead (n : Int) (l : List UInt8) : ∀ (z r : List UInt8) (f k last : Nat) (acc : List Tk), l.drop k = z ++ r → (∀ b ∈ z, isBlank b = true) → l.length ≤ k + f → toksR n l f k last acc = toksR n l (f - z.length) (k + z.length) last acc
  | [], r, f, k, last, acc, hd, hz, hf => rfl
  | b :: z, r, f, k, last, acc, hd, hz, hf => by
    have hl := congrArg List.length hd
    rw [List.length_drop, List.cons_append, List.length_cons] at hl
    have hb : at8 l k = b := by
      have := at8_drop l k 0
      rw [hd, Nat.add_zero] at this
      rw [← this]; rfl
    obtain ⟨f, rfl⟩ : ∃ f', f = f' + 1 := ⟨f - 1, by omega⟩
    rw [toksR_blank n l f k last acc (by omega) (by rw [hb]; exact blank_ne b (hz b (by simp))) (by rw [hb]; exact hz b (by simp)),
      toksR_ahead n l z r f (k + 1) last acc (by rw [← List.drop_drop, hd]; rfl) (fun c hc => hz c (by simp [hc])) (by omega), List.length_cons]
    congr 1 <;> omega
theorem line_sim (n m : Int) (bl x q : List UInt8) (hb : ∀ b ∈ bl, isBlank b = true) (hq : Tail q) (hx : x.length ≤ 1000) (hz : (bl ++ x ++ q).length ≤ 1000) : Alike2 (lineD n (bl ++ x ++ q)) (lineD m x) := by
  unfold lineD
  rw [if_neg (by omega), if_neg (by omega), toksR_ahead n (bl ++ x ++ q) bl (x ++ q) _ 0 0 [] (by rw [List.drop_zero, List.append_assoc]) hb (by omega), Nat.zero_add]
  have h := toks_sim n m bl x q hq x.length 0 ((bl ++ x ++ q).length - bl.length) 0 0 [] [] (by omega) (by omega) (by rw [List.length_append, List.length_append] at *; omega) rfl
  rw [Nat.add_zero] at h
  exact h
theorem lineD_empty (n : Int) : lineD n [] = ⟨[], 0, 0, 0⟩ := rfl
/-- A text with blanks and remarks at its lines' ends, by its lines. -/
def expandLs (bl rem : List UInt8) : List (List UInt8) → List (List UInt8)
  | [] => []
  | [x] => [bl ++ x ++ 35 :: rem]
  | x :: y :: r => (bl ++ x ++ (bl ++ 9 :: 35 :: rem)) :: [] :: expandLs bl rem (y :: r)
theorem scan_sim (bl rem : List UInt8) (hb : ∀ b ∈ bl, isBlank b = true) (hbl : bl.length ≤ 20) (hr : rem.length ≤ 50) : ∀ (ls : List (List UInt8)) (n m : Int) (acc acc' : List Tk), (∀ x ∈ ls, x.length ≤ 900) → acc'.map bareT = acc.map bareT →
    Alike2 (scanR (expandLs bl rem ls) n acc') (scanR ls m acc)
  | [], n, m, acc, acc', hl, ha => ⟨rfl, ha⟩
  | [x], n, m, acc, acc', hl, ha => by
    have hx := hl x (by simp)
    have h := line_sim n m bl x (35 :: rem) hb ⟨[], rem, rfl, (fun b h => by cases h)⟩ (by omega) (by rw [List.length_append, List.length_append, List.length_cons]; omega)
    show Alike2 (scanR [bl ++ x ++ 35 :: rem] n acc') (scanR [x] m acc)
    by_cases he : (lineD m x).e = 0
    · rw [scanR_on x [] m acc he, scanR_on _ [] n acc' (by rw [h.1]; exact he)]
      exact ⟨rfl, by show List.map bareT (acc' ++ _) = List.map bareT (acc ++ _); rw [List.map_append, List.map_append, ha, h.2]⟩
    · rw [scanR_err x [] m acc he, scanR_err _ [] n acc' (by rw [h.1]; exact he)]
      exact ⟨h.1, rfl⟩
  | x :: y :: r, n, m, acc, acc', hl, ha => by
    have hx := hl x (by simp)
    have h := line_sim n m bl x (bl ++ 9 :: 35 :: rem) hb ⟨bl ++ [9], rem, by simp, fun b h => by
      rcases List.mem_append.1 h with h | h
      · exact hb b h
      · obtain rfl : b = 9 := by simpa using h
        decide⟩ (by omega) (by rw [List.length_append, List.length_append, List.length_append, List.length_cons, List.length_cons]; omega)
    show Alike2 (scanR ((bl ++ x ++ (bl ++ 9 :: 35 :: rem)) :: [] :: expandLs bl rem (y :: r)) n acc') (scanR (x :: y :: r) m acc)
    by_cases he : (lineD m x).e = 0
    · rw [scanR_on x _ m acc he, scanR_on _ _ n acc' (by rw [h.1]; exact he), scanR_on [] _ _ _ (by rw [lineD_empty])]
      refine scan_sim bl rem hb hbl hr (y :: r) _ _ _ _ (fun z hz => hl z (by simp at hz ⊢; exact .inr hz)) ?_
      rw [lineD_empty, List.append_nil, List.map_append, List.map_append, ha, h.2]
    · rw [scanR_err x _ m acc he, scanR_err _ _ n acc' (by rw [h.1]; exact he)]
      exact ⟨h.1, rfl⟩
/-- What is put in for each byte. -/
def putL (bl rem : List UInt8) (b : UInt8) : List UInt8 := if b = 10 then bl ++ [9, 35] ++ rem ++ [10, 10] ++ bl else [b]
def expand (bl rem : List UInt8) : List UInt8 → List UInt8
  | [] => []
  | b :: r => putL bl rem b ++ expand bl rem r
theorem linesA_app : ∀ (u cur v : List UInt8), (∀ b ∈ u, b ≠ 10) → linesA cur (u ++ v) = linesA (cur ++ u) v
  | [], cur, v, _ => by rw [List.nil_append, List.append_nil]
  | b :: u, cur, v, h => by
    rw [List.cons_append, linesA, if_neg (h b (by simp)), linesA_app u _ v (fun c hc => h c (by simp [hc])), List.append_assoc]
    rfl
theorem linesA_ne (cur r : List UInt8) : linesA cur r ≠ [] := by
  cases r with
  | nil => simp [linesA]
  | cons b r =>
    rw [linesA]
    split
    · simp
    · exact linesA_ne _ r
  termination_by r.length
theorem expand_lines (bl rem : List UInt8) (hb : ∀ b ∈ bl, b ≠ 10) (hr : ∀ b ∈ rem, b ≠ 10) : ∀ (r cur : List UInt8), linesA (bl ++ cur) (expand bl rem r ++ 35 :: rem) = expandLs bl rem (linesA cur r)
  | [], cur => by
    have h := linesA_app (35 :: rem) (bl ++ cur) [] (fun b h => by
      rcases List.mem_cons.1 h with rfl | h
      · decide
      · exact hr b h)
    rw [List.append_nil] at h
    show linesA (bl ++ cur) ([] ++ 35 :: rem) = _
    rw [List.nil_append, h]
    rfl
  | b :: r, cur => by
    show linesA (bl ++ cur) (putL bl rem b ++ expand bl rem r ++ 35 :: rem) = expandLs bl rem (if _ then _ else _)
    by_cases h10 : b = 10
    · subst h10
      rw [if_pos rfl]
      have hE : putL bl rem 10 ++ expand bl rem r ++ 35 :: rem = (bl ++ [9, 35] ++ rem) ++ (10 :: 10 :: (bl ++ (expand bl rem r ++ 35 :: rem))) := by
        unfold putL
        rw [if_pos rfl]
        simp
      have h1 : ∀ c ∈ bl ++ [9, 35] ++ rem, c ≠ 10 := fun c hc => by
        rcases List.mem_append.1 hc with hc | hc
        · rcases List.mem_append.1 hc with hc | hc
          · exact hb c hc
          · have : c = 9 ∨ c = 35 := by simpa using hc
            rcases this with rfl | rfl <;> decide
        · exact hr c hc
      rw [hE, linesA_app _ _ _ h1]
      have e1 : ∀ c v, linesA c (10 :: v) = c :: linesA [] v := fun c v => by
        show (if _ then _ else _) = _
        rw [if_pos rfl]
      rw [e1, e1, linesA_app bl [] _ hb, List.nil_append]
      have ih := expand_lines bl rem hb hr r []
      rw [List.append_nil] at ih
      rw [ih]
      cases hls : linesA [] r with
      | nil => exact absurd hls (linesA_ne [] r)
      | cons y ls =>
        show _ = (bl ++ cur ++ (bl ++ 9 :: 35 :: rem)) :: [] :: _
        congr 1
        simp
    · rw [if_neg h10]
      have hp : putL bl rem b = [b] := by unfold putL; rw [if_neg h10]
      have ih := expand_lines bl rem hb hr r (cur ++ [b])
      rw [hp, ← ih, List.append_assoc [b], List.singleton_append]
      show (if _ then _ else _) = _
      rw [if_neg h10, List.append_assoc]
theorem blanks_alike (s bl rem : List UInt8) (hb : ∀ b ∈ bl, b = 32) (hbl : bl.length ≤ 20) (hr : ∀ b ∈ rem, b ≠ 10) (hrl : rem.length ≤ 50) (hs : s.length ≤ 65536) (hx : ∀ x ∈ linesA [] s, x.length ≤ 900) (hm : (bl ++ expand bl rem s ++ 35 :: rem).length ≤ 65536) :
    Alike2 (scanD (bl ++ expand bl rem s ++ 35 :: rem)) (scanD s) := by
  rw [scanD_short _ hm, scanD_short s hs, List.append_assoc, linesA_app bl [] _ (fun b h => by rw [hb b h]; decide), List.nil_append]
  have h := expand_lines bl rem (fun b h => by rw [hb b h]; decide) hr s []
  rw [List.append_nil] at h
  rw [h]
  exact scan_sim bl rem (fun b h => by rw [hb b h]; decide) hbl hrl _ _ _ [] [] hx rfl
end Go.Proofs.YtbnmibkmddhniaaDoor
