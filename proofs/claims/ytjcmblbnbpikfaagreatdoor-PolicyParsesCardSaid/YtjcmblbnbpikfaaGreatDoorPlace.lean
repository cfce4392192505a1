/- Layer 7: the tokens of the -/
import Derived.Test.YtjcmblbnbpikfaaGreatDoorAwake7
set_option linter.unusedSimpArgs false
set_option linter.unusedVariables false
namespace Go.Proofs.YtjcmblbnbpikfaaGreatDoor

open Go.RowKit Go.PlainAid

def bare (x : Tk) : Tk := ⟨x.k, x.t, x.n, 0, 0⟩
def okT (x : Tk) : Prop := (x.k = 1 ∧ x.t ≠ [] ∧ (∀ b ∈ x.t, isLet b = true) ∧ x.n = 0) ∨ (x.k = 2 ∧ x.t = [] ∧ 0 ≤ x.n ∧ x.n ≤ 65535) ∨ (x.k = 3 ∧ x.t = [] ∧ x.n = 0)
def tx (x : Tk) : List UInt8 := textL x.k x.t x.n
theorem tw {p : UInt8 → Bool} : ∀ {A rest : List UInt8}, (∀ b ∈ A, p b = true) → (∀ b, rest[0]? = some b → p b = false) → (A ++ rest).takeWhile p = A
 | [], [], _, _ => rfl
 | [], b :: r, _, h => by rw [List.nil_append, List.takeWhile_cons_of_neg (by simp [h b rfl])]
 | a :: r, rest, hA, hr => by
  rw [List.cons_append, List.takeWhile_cons_of_pos (hA a (by simp)), tw (fun b hb => hA b (by simp [hb])) hr]
theorem runL_of {p : UInt8 → Bool} {pre A rest : List UInt8} (hA : ∀ b ∈ A, p b = true) (hr : ∀ b, rest[0]? = some b → p b = false) : runL p (pre ++ A ++ rest) pre.length = pre.length + A.length := by
 unfold runL
 rw [List.append_assoc, List.drop_left, tw hA hr]
theorem low_dig : ∀ d : Fin 16, isDig 16 (lowL d.val) = true ∧ digN (lowL d.val) = d.val := by decide +kernel
theorem lows_dig (n : Nat) : ∀ k, ∀ b ∈ lowsL n k, isDig 16 b = true
 | 0, b, h => by simp [lowsL] at h
 | k + 1, b, h => by
  unfold lowsL at h
  rcases List.mem_cons.1 h with rfl | h
  ·exact (low_dig ⟨n / 16 ^ k % 16, Nat.mod_lt _ (by decide)⟩).1
  ·exact lows_dig n k b h
theorem numV_halt (base : Nat) (rest : List UInt8) (M : Int) (hr : ∀ b, rest[0]? = some b → isDig base b = false) : numV base rest M = M := by
 cases rest with
 | nil => rfl
 | cons b r => unfold numV; rw [hr b rfl]; rfl
theorem numV_lows (N : Nat) (rest : List UInt8) (hr : ∀ b, rest[0]? = some b → isDig 16 b = false) : ∀ (k M : Nat), M * 16 ^ k + N % 16 ^ k ≤ 65535 → numV 16 (lowsL N k ++ rest) (M : Int) = ((M * 16 ^ k + N % 16 ^ k : Nat) : Int)
 | 0, M, _ => by
  show numV 16 rest _ = _
  rw [numV_halt 16 rest _ hr]
  simp [Nat.mod_one]
 | k + 1, M, h => by
  have hd := low_dig ⟨N / 16 ^ k % 16, Nat.mod_lt _ (by decide)⟩
  dsimp only at hd
  have hmod := Nat.mod_pow_succ (x := N) (b := 16) (k := k)
  have hp : 0 < 16 ^ k := Nat.pow_pos (by decide)
  generalize hD : N / 16 ^ k % 16 = d at *
  have hd16 : d < 16 := by rw [← hD]; exact Nat.mod_lt _ (by decide)
  have e2 : M * 16 ^ (k + 1) = M * 16 * 16 ^ k := by rw [Nat.pow_succ, Nat.mul_assoc, Nat.mul_comm 16]
  have e3 : M * 16 ^ (k + 1) + N % 16 ^ (k + 1) = (M * 16 + d) * 16 ^ k + N % 16 ^ k := by rw [hmod, e2, Nat.add_mul, Nat.mul_comm (16 ^ k) d]; omega
  have hle : M * 16 + d ≤ 65535 := by
   have h4 : (M * 16 + d) * 1 ≤ (M * 16 + d) * 16 ^ k := Nat.mul_le_mul_left _ hp
   omega
  unfold lowsL
  rw [List.cons_append, hD]
  unfold numV
  rw [if_pos hd.1, hd.2]
  have hmin : min (65536 : Int) ((M : Int) * ((16 : Nat) : Int) + (d : Int)) = ((M * 16 + d : Nat) : Int) := by push_cast; omega
  rw [hmin, numV_lows N rest hr k (M * 16 + d) (by omega), e3]
theorem glue_end {A rest : List UInt8} (hr : ∀ b, rest[0]? = some b → b = 32) (n : Nat) (hn : n = A.length) : glueAt (A ++ rest) n = false := by
 unfold glueAt
 rw [hn, List.getElem?_append_right (Nat.le_refl _), Nat.sub_self]
 cases h : rest[0]? with
 | none => rfl
 | some b => rw [hr b h]; decide
theorem let_ne32 {rest : List UInt8} (hr : ∀ b, rest[0]? = some b → b = 32) : ∀ b, rest[0]? = some b → isLet b = false := fun b h => by rw [hr b h]; decide
theorem dig_ne32 {rest : List UInt8} (hr : ∀ b, rest[0]? = some b → b = 32) : ∀ b, rest[0]? = some b → isDig 16 b = false := fun b h => by rw [hr b h]; decide
theorem let_first (b : UInt8) (h : isLet b = true) : b ≠ 35 ∧ isBlank b = false ∧ b ≠ 10 := by
 refine ⟨?_, ?_, ?_⟩
 ·rintro rfl; revert h; decide
 ·cases hb : isBlank b with
  | false => rfl
  | true =>
   unfold isBlank at hb
   rw [Bool.or_eq_true, beq_iff_eq, beq_iff_eq] at hb
   rcases hb with rfl | rfl <;> (revert h; decide)
 ·rintro rfl; revert h; decide
theorem oneD_tx {x : Tk} (hx : okT x) {rest : List UInt8} (hr : ∀ b, rest[0]? = some b → b = 32) : oneD (tx x ++ rest) = ⟨x.k, x.t, x.n, (tx x).length, 0⟩ := by
 obtain ⟨k, t, n, li, co⟩ := x
 rcases hx with ⟨rfl, ht, hl, rfl⟩ | ⟨rfl, rfl, h0, h1⟩ | ⟨rfl, rfl, rfl⟩ <;> (try dsimp only at *)
 ·have hw : wordB t = true := by unfold wordB; rw [Bool.and_eq_true]; exact ⟨by simpa using ht, List.all_eq_true.2 hl⟩
  have e : tx ⟨1, t, 0, li, co⟩ = t := by unfold tx textL; rw [if_pos rfl, if_pos hw]
  rw [e]
  cases t with
  | nil => exact absurd rfl ht
  | cons b r =>
   have hb := hl b (by simp)
   have h2 := runL_of (pre := []) (A := b :: r) hl (let_ne32 hr)
   rw [List.nil_append, List.length_nil, Nat.zero_add] at h2
   unfold oneD
   show (if isLet b = true then oneWord (b :: r ++ rest) else _) = _
   rw [if_pos hb]
   unfold oneWord
   dsimp only
   rw [h2, if_neg (by rw [glue_end hr _ rfl]; simp), List.take_left' rfl]
 ·have hN : (n.toNat : Int) = n := Int.toNat_of_nonneg h0
  have hw2 : n.toNat % 16 ^ widthN n = n.toNat ∧ 0 < widthN n := by
   unfold widthN
   split
   ·exact ⟨Nat.mod_eq_of_lt (by have : (16 : Nat) ^ 4 = 65536 := rfl; omega), by decide⟩
   ·exact ⟨Nat.mod_eq_of_lt (by have : (16 : Nat) ^ 2 = 256 := rfl; omega), by decide⟩
  have e : tx ⟨2, [], n, li, co⟩ = 36 :: lowsL n.toNat (widthN n) := by unfold tx textL; rw [if_neg (show ¬ (2 : Int) = 1 by decide), if_pos rfl, if_neg (show ¬ (n < 0 ∨ 65535 < n) by omega)]
  rw [e]
  have hlen := lows_len n.toNat (widthN n)
  have h2 := runL_of (pre := [36]) (A := lowsL n.toNat (widthN n)) (lows_dig _ _) (dig_ne32 hr)
  have h3 := numV_lows n.toNat rest (dig_ne32 hr) (widthN n) 0 (by rw [Nat.zero_mul, Nat.zero_add, hw2.1]; omega)
  rw [Nat.zero_mul, Nat.zero_add, hw2.1, hN] at h3
  have h4 : glueAt (36 :: lowsL n.toNat (widthN n) ++ rest) (1 + (lowsL n.toNat (widthN n)).length) = false := glue_end (A := 36 :: lowsL n.toNat (widthN n)) hr _ (by simp; omega)
  have h2' : runL (isDig 16) (36 :: lowsL n.toNat (widthN n) ++ rest) 1 = 1 + (lowsL n.toNat (widthN n)).length := h2
  unfold oneD
  show (if isLet 36 = true then _ else if (36 : UInt8) = 46 then _ else if (36 : UInt8) = 36 then oneNum 16 (36 :: lowsL n.toNat (widthN n) ++ rest) 1 else _) = _
  rw [if_neg (by decide), if_neg (by decide), if_pos rfl]
  unfold oneNum
  dsimp only
  rw [h2', if_neg (by rw [h4]; rintro (h | h); omega; cases h)]
  have h5 : numV 16 (List.drop 1 (36 :: lowsL n.toNat (widthN n) ++ rest)) 0 = n := h3
  rw [h5, if_neg (by omega)]
  simp [Nat.add_comm]
 ·have e : tx ⟨3, [], 0, li, co⟩ = [46, 46] := rfl
  rw [e]
  unfold oneD
  show (if isLet 46 = true then _ else if (46 : UInt8) = 46 then (if some (46 : UInt8) = some 46 then _ else _) else _) = _
  rw [if_neg (by decide), if_pos rfl, if_pos rfl]
  rfl
theorem tx_bytes {x : Tk} (hx : okT x) : tx x ≠ [] ∧ ∀ b ∈ tx x, b ≠ 10 ∧ b ≠ 35 ∧ isBlank b = false := by
 obtain ⟨k, t, n, li, co⟩ := x
 rcases hx with ⟨rfl, ht, hl, rfl⟩ | ⟨rfl, rfl, h0, h1⟩ | ⟨rfl, rfl, rfl⟩ <;> (try dsimp only at *)
 ·have hw : wordB t = true := by unfold wordB; rw [Bool.and_eq_true]; exact ⟨by simpa using ht, List.all_eq_true.2 hl⟩
  have e : tx ⟨1, t, 0, li, co⟩ = t := by unfold tx textL; rw [if_pos rfl, if_pos hw]
  rw [e]
  exact ⟨ht, fun b hb => by obtain ⟨h1, h2, h3⟩ := let_first b (hl b hb); exact ⟨h3, h1, h2⟩⟩
 ·have e : tx ⟨2, [], n, li, co⟩ = 36 :: lowsL n.toNat (widthN n) := by unfold tx textL; rw [if_neg (show ¬ (2 : Int) = 1 by decide), if_pos rfl, if_neg (show ¬ (n < 0 ∨ 65535 < n) by omega)]
  rw [e]
  refine ⟨by simp, fun b hb => ?_⟩
  rcases List.mem_cons.1 hb with rfl | hb
  ·decide
  ·have := lows_dig _ _ b hb
   have hall := all_bytes (fun b => !(isDig 16 b) || (b != 10 && b != 35 && !isBlank b)) (by decide +kernel) b
   rw [this] at hall
   have h3 : (¬b = 10 ∧ ¬b = 35) ∧ isBlank b = false := by simpa using hall
   exact ⟨h3.1.1, h3.1.2, h3.2⟩
 ·have e : tx ⟨3, [], 0, li, co⟩ = [46, 46] := rfl
  rw [e]
  exact ⟨by simp, fun b hb => by simp only [List.mem_cons, List.not_mem_nil, or_false, or_self] at hb; subst hb; decide⟩
def bodyX : List Tk → List UInt8
 | [] => []
 | [x] => tx x
 | x :: y :: r => tx x ++ 32 :: bodyX (y :: r)
theorem body_no10 : ∀ {cs : List Tk}, (∀ x ∈ cs, okT x) → ∀ b ∈ bodyX cs, b ≠ 10
 | [], _, b, h => by simp [bodyX] at h
 | [x], hc, b, h => ((tx_bytes (hc x (by simp))).2 b h).1
 | x :: y :: r, hc, b, h => by
  unfold bodyX at h
  rcases List.mem_append.1 h with h | h
  ·exact ((tx_bytes (hc x (by simp))).2 b h).1
  ·rcases List.mem_cons.1 h with rfl | h
   ·decide
   ·exact body_no10 (fun z hz => hc z (List.mem_cons_of_mem _ hz)) b h
theorem toksR_body (n : Int) : ∀ (cs : List Tk), cs ≠ [] → (∀ x ∈ cs, okT x) → ∀ (pre : List UInt8) (f last : Nat) (acc : List Tk), (bodyX cs).length ≤ f →
  ∃ ps last', ps.map bare = cs.map bare ∧ toksR n (pre ++ bodyX cs) f pre.length last acc = endT n last' (acc ++ ps)
 | [], h, _, _, _, _, _, _ => absurd rfl h
 | [x], _, hc, pre, f, last, acc, hf => by
  have hx := hc x (by simp)
  obtain ⟨hne, hby⟩ := tx_bytes hx
  have h1 := oneD_tx hx (rest := []) (fun b h => by simp at h)
  rw [List.append_nil] at h1
  have hpos : 0 < (tx x).length := List.length_pos_iff.2 hne
  have hl : pre.length < (pre ++ tx x).length := by rw [List.length_append]; omega
  have hat : at8 (pre ++ tx x) pre.length ∈ tx x := by
   have h0 : (pre ++ tx x)[pre.length]? = (tx x)[0]? := by rw [List.getElem?_append_right (Nat.le_refl _), Nat.sub_self]
   have h2 := at8_some (pre ++ tx x) pre.length hl
   rw [h0] at h2
   exact List.mem_of_getElem? h2
  have hd : (pre ++ tx x).drop pre.length = tx x := List.drop_left
  obtain ⟨f', rfl⟩ : ∃ f', f = f' + 1 := ⟨f - 1, by show _; have : (tx x).length ≤ f := hf; omega⟩
  show ∃ ps last', _ ∧ toksR n (pre ++ tx x) (f' + 1) pre.length last acc = _
  rw [toksR_tok n (pre ++ tx x) f' pre.length last acc hl (hby _ hat).2.1 (hby _ hat).2.2 (by rw [hd, h1]), hd, h1]
  rw [toksR_end n (pre ++ tx x) f' _ _ _ (by rw [List.length_append]; exact Nat.le_refl _)]
  exact ⟨[⟨x.k, x.t, x.n, n, (pre.length : Int) + 1⟩], _, rfl, rfl⟩
 | x :: y :: r, _, hc, pre, f, last, acc, hf => by
  have hx := hc x (by simp)
  obtain ⟨hne, hby⟩ := tx_bytes hx
  have eB : bodyX (x :: y :: r) = tx x ++ 32 :: bodyX (y :: r) := rfl
  rw [eB] at hf ⊢
  have h1 := oneD_tx hx (rest := 32 :: bodyX (y :: r)) (fun b h => by simpa using h.symm)
  have hpos : 0 < (tx x).length := List.length_pos_iff.2 hne
  rw [List.length_append, List.length_cons] at hf
  obtain ⟨f', rfl⟩ : ∃ f', f = f' + 1 := ⟨f - 1, by omega⟩
  obtain ⟨f'', rfl⟩ : ∃ f'', f' = f'' + 1 := ⟨f' - 1, by omega⟩
  have hl : pre.length < (pre ++ (tx x ++ 32 :: bodyX (y :: r))).length := by rw [List.length_append, List.length_append]; omega
  have hat : at8 (pre ++ (tx x ++ 32 :: bodyX (y :: r))) pre.length ∈ tx x := by
   have h0 : (pre ++ (tx x ++ 32 :: bodyX (y :: r)))[pre.length]? = (tx x)[0]? := by rw [List.getElem?_append_right (Nat.le_refl _), Nat.sub_self, List.getElem?_append_left hpos]
   have h2 := at8_some _ pre.length hl
   rw [h0] at h2
   exact List.mem_of_getElem? h2
  have hd : (pre ++ (tx x ++ 32 :: bodyX (y :: r))).drop pre.length = tx x ++ 32 :: bodyX (y :: r) := List.drop_left
  rw [toksR_tok n _ (f'' + 1) pre.length last acc hl (hby _ hat).2.1 (hby _ hat).2.2 (by rw [hd, h1]), hd, h1]
  dsimp only
  have hl2 : pre.length + (tx x).length < (pre ++ (tx x ++ 32 :: bodyX (y :: r))).length := by rw [List.length_append, List.length_append, List.length_cons]; omega
  have hat2 : at8 (pre ++ (tx x ++ 32 :: bodyX (y :: r))) (pre.length + (tx x).length) = 32 := by
   have h0 : (pre ++ (tx x ++ 32 :: bodyX (y :: r)))[pre.length + (tx x).length]? = some 32 := by
    rw [← List.append_assoc, List.getElem?_append_right (by rw [List.length_append]; omega), List.length_append, Nat.sub_self]; rfl
   have h2 := at8_some _ _ hl2
   rw [h0] at h2
   exact (Option.some.inj h2).symm
  rw [toksR_blank n _ f'' _ _ _ hl2 (by rw [hat2]; decide) (by rw [hat2]; decide)]
  have hpre : pre ++ (tx x ++ 32 :: bodyX (y :: r)) = (pre ++ tx x ++ [32]) ++ bodyX (y :: r) := by simp
  have hlen : pre.length + (tx x).length + 1 = (pre ++ tx x ++ [32]).length := by simp; omega
  rw [hpre, hlen]
  obtain ⟨ps, last', e1, e2⟩ := toksR_body n (y :: r) (by simp) (fun z hz => hc z (List.mem_cons_of_mem _ hz)) (pre ++ tx x ++ [32]) f'' (pre.length + (tx x).length) (acc ++ [⟨x.k, x.t, x.n, n, (pre.length : Int) + 1⟩]) (by omega)
  refine ⟨⟨x.k, x.t, x.n, n, (pre.length : Int) + 1⟩ :: ps, last', by rw [List.map_cons, List.map_cons, e1]; rfl, ?_⟩
  rw [e2, List.append_assoc]
  rfl
def okL (cs : List Tk) : Prop := cs ≠ [] ∧ (∀ x ∈ cs, okT x) ∧ (bodyX cs).length ≤ 1000
def txtX (css : List (List Tk)) : List UInt8 := css.flatMap fun cs => bodyX cs ++ [10]
theorem linesA_line : ∀ (B cur rest : List UInt8), (∀ b ∈ B, b ≠ 10) → linesA cur (B ++ 10 :: rest) = (cur ++ B) :: linesA [] rest
 | [], cur, rest, _ => by rw [List.nil_append, linesA, if_pos rfl, List.append_nil]
 | b :: r, cur, rest, h => by
  rw [List.cons_append, linesA, if_neg (h b (by simp)), linesA_line r (cur ++ [b]) rest (fun x hx => h x (by simp [hx])), List.append_assoc]
  rfl
theorem linesA_txt : ∀ (css : List (List Tk)), (∀ cs ∈ css, okL cs) → linesA [] (txtX css) = css.map bodyX ++ [[]]
 | [], _ => rfl
 | cs :: r, h => by
  have hc := h cs (by simp)
  show linesA [] (bodyX cs ++ [10] ++ txtX r) = _
  rw [List.append_assoc]
  show linesA [] (bodyX cs ++ 10 :: txtX r) = _
  rw [linesA_line _ _ _ (body_no10 hc.2.1), linesA_txt r (fun x hx => h x (by simp [hx]))]
  rfl
theorem lineD_body (n : Int) {cs : List Tk} (h : okL cs) : ∃ ps, ps.map bare = cs.map bare ++ [endK] ∧ lineD n (bodyX cs) = ⟨ps, 0, 0, 0⟩ := by
 obtain ⟨ps, last, e1, e2⟩ := toksR_body n cs h.1 h.2.1 [] (bodyX cs).length 0 [] (Nat.le_refl _)
 have hne : ps ≠ [] := fun e => by
  rw [e] at e1
  exact h.1 (List.map_eq_nil_iff.1 e1.symm)
 unfold lineD
 rw [if_neg (by have := h.2.2; omega)]
 rw [List.nil_append, List.nil_append] at e2
 refine ⟨ps ++ [⟨4, [], 0, n, (last : Int) + 1⟩], by rw [List.map_append, e1]; rfl, ?_⟩
 show toksR n (bodyX cs) (bodyX cs).length 0 0 [] = _
 have e3 : toksR n (bodyX cs) (bodyX cs).length 0 0 [] = endT n last ps := e2
 rw [e3]
 unfold endT
 rw [if_neg hne]
theorem scanR_body : ∀ (css : List (List Tk)) (n : Int) (acc : List Tk), (∀ cs ∈ css, okL cs) → ∃ ps, ps.map bare = (css.flatMap fun cs => cs.map bare ++ [endK]) ∧ scanR (css.map bodyX ++ [[]]) n acc = ⟨acc ++ ps, 0, 0, 0⟩
 | [], n, acc, _ => ⟨[], rfl, by
   show scanR [[]] n acc = _
   have hl : lineD n [] = ⟨[], 0, 0, 0⟩ := rfl
   rw [scanR_on [] [] n acc (by rw [hl]), hl]
   show (⟨acc ++ [], 0, 0, 0⟩ : Out) = _
   rfl⟩
 | cs :: r, n, acc, h => by
  obtain ⟨p1, e1, e2⟩ := lineD_body n (h cs (by simp))
  obtain ⟨p2, e3, e4⟩ := scanR_body r (n + 1) (acc ++ p1) (fun x hx => h x (by simp [hx]))
  refine ⟨p1 ++ p2, by rw [List.map_append, e1, e3]; rfl, ?_⟩
  show scanR (bodyX cs :: (r.map bodyX ++ [[]])) n acc = _
  rw [scanR_on _ _ n acc (by rw [e2]), e2, e4, List.append_assoc]
theorem scanD_txt {css : List (List Tk)} (h : ∀ cs ∈ css, okL cs) (hl : (txtX css).length ≤ 65536) : ∃ ps, ps.map bare = (css.flatMap fun cs => cs.map bare ++ [endK]) ∧ scanD (txtX css) = ⟨ps, 0, 0, 0⟩ := by
 rw [scanD_short _ hl, linesA_txt css h]
 exact scanR_body css 1 [] h
theorem okT_text {x : Tk} (h : okT x) : textE x.k x.t x.n = 0 ∧ x.k ≠ 4 := by
 obtain ⟨k, t, n, li, co⟩ := x
 rcases h with ⟨rfl, ht, hl, rfl⟩ | ⟨rfl, rfl, h0, h1⟩ | ⟨rfl, rfl, rfl⟩ <;> (try dsimp only at *)
 ·have hw : wordB t = true := by unfold wordB; rw [Bool.and_eq_true]; exact ⟨by simpa using ht, List.all_eq_true.2 hl⟩
  exact ⟨by unfold textE; rw [if_pos rfl, if_pos hw], by decide⟩
 ·exact ⟨by unfold textE; rw [if_neg (show ¬ (2 : Int) = 1 by decide), if_pos rfl, if_neg (show ¬ (n < 0 ∨ 65535 < n) by omega)], by decide⟩
 ·exact ⟨rfl, by decide⟩
theorem joinR_core : ∀ (cs : List Tk), cs ≠ [] → (∀ x ∈ cs, okT x) → ∀ (p : Option Int) (acc : List UInt8) (more : List Tk), (∀ k, k ≠ 4 → sepL p k = []) → joinR (cs ++ endK :: more) p acc = joinR more (some 4) (acc ++ bodyX cs ++ [10])
 | [], h, _, _, _, _, _ => absurd rfl h
 | [x], _, hc, p, acc, more, hp => by
  obtain ⟨e1, e2⟩ := okT_text (hc x (by simp))
  show joinR (x :: endK :: more) p acc = _
  rw [joinR, if_neg (by rw [e1]; simp), hp _ e2, List.append_nil, joinR, if_neg (by decide)]
  have : sepL (some x.k) endK.k = [] := by show (if _ then _ else _) = _; rw [if_neg (by rintro ⟨_, h⟩; exact h rfl)]
  rw [this, List.append_nil]
  rfl
 | x :: y :: r, _, hc, p, acc, more, hp => by
  obtain ⟨e1, e2⟩ := okT_text (hc x (by simp))
  obtain ⟨e3, e4⟩ := okT_text (hc y (by simp))
  have hq : ∀ (q : Option Int) (a : List UInt8) (zs : List Tk), joinR (y :: zs) q a = joinR zs (some y.k) (a ++ sepL q y.k ++ tx y) := fun q a zs => by rw [joinR, if_neg (by rw [e3]; simp)]; rfl
  have ih := joinR_core (y :: r) (by simp) (fun z hz => hc z (List.mem_cons_of_mem _ hz)) none (acc ++ tx x ++ [32]) more (fun _ _ => rfl)
  rw [List.cons_append, hq] at ih
  rw [List.cons_append, joinR, if_neg (by rw [e1]; simp), hp _ e2, List.append_nil, List.cons_append, hq]
  have h32 : sepL (some x.k) y.k = [32] := by show (if _ then _ else _) = _; rw [if_pos ⟨e2, e4⟩]
  have h0 : sepL none y.k = [] := rfl
  rw [h32]
  rw [h0, List.append_nil] at ih
  rw [show acc ++ textL x.k x.t x.n ++ [32] ++ tx y = acc ++ tx x ++ [32] ++ tx y from rfl, ih]
  show joinR more (some 4) _ = joinR more (some 4) (acc ++ (tx x ++ 32 :: bodyX (y :: r)) ++ [10])
  congr 1
  simp
theorem sep_four (k : Int) : sepL (some 4) k = [] := by unfold sepL; dsimp only; rw [if_neg (fun h => h.1 rfl)]
theorem joinR_lines : ∀ (css : List (List Tk)), (∀ cs ∈ css, okL cs) → ∀ (p : Option Int) (acc : List UInt8), (∀ k, k ≠ 4 → sepL p k = []) → joinR (css.flatMap fun cs => cs ++ [endK]) p acc = (acc ++ txtX css, 0)
 | [], _, p, acc, _ => by show (acc, (0 : Int)) = _; simp [txtX]
 | cs :: r, h, p, acc, hp => by
  have hc := h cs (by simp)
  rw [List.flatMap_cons, List.append_assoc]
  show joinR (cs ++ endK :: (r.flatMap fun cs => cs ++ [endK])) p acc = _
  rw [joinR_core cs hc.1 hc.2.1 p acc _ hp, joinR_lines r (fun x hx => h x (by simp [hx])) (some 4) _ (fun k hk => sep_four k)]
  show (_, (0 : Int)) = (acc ++ (bodyX cs ++ [10] ++ txtX r), 0)
  simp
def okM (l : List Mk) : Prop := (∀ x ∈ l, liesB x.s x.k = true ∧ x.s.b ≠ 0) ∧ l.length ≤ 64 ∧ l.Pairwise (fun x y => meetB x.s y.s = false)
theorem meetB_symm {x y : Sp} (h : meetB x y = false) : meetB y x = false := by
 unfold meetB at h ⊢
 rw [Bool.and_comm]
 exact h
theorem clashR_zero (x : Mk) : ∀ (l : List Mk) (e : Int), clashR x e l = 0 ↔ e = 0 ∧ ∀ y ∈ l, meetB x.s y.s = false
 | [], e => ⟨fun h => ⟨h, fun y hy => by simp at hy⟩, fun h => h.1⟩
 | y :: r, e => by
  unfold clashR
  cases hm : meetB x.s y.s with
  | true =>
   rw [if_pos rfl]
   constructor
   ·intro h
    split at h
    ·cases h
    ·have := ((clashR_zero x r 15).1 h).1; cases this
   ·intro h
    have := h.2 y (by simp)
    rw [hm] at this; cases this
  | false =>
   rw [if_neg (by simp)]
   rw [clashR_zero x r e]
   exact ⟨fun h => ⟨h.1, fun z hz => by rcases List.mem_cons.1 hz with rfl | hz; exact hm; exact h.2 z hz⟩, fun h => ⟨h.1, fun z hz => h.2 z (by simp [hz])⟩⟩
theorem addM_zero (x : Mk) (l : List Mk) : addM x l = 0 ↔ (liesB x.s x.k = true ∧ x.s.b ≠ 0) ∧ l.length ≠ 64 ∧ ∀ y ∈ l, meetB x.s y.s = false := by
 unfold addM
 by_cases h1 : liesB x.s x.k = false ∨ x.s.b = 0
 ·rw [if_pos h1]
  refine ⟨fun h => (by cases h), fun h => ?_⟩
  rcases h1 with h1 | h1
  ·rw [h1] at h; cases h.1.1
  ·exact absurd h1 h.1.2
 ·rw [if_neg h1]
  have h2 : liesB x.s x.k = true ∧ x.s.b ≠ 0 := ⟨by cases hl : liesB x.s x.k; exact absurd (.inl hl) h1; rfl, fun e => h1 (.inr e)⟩
  by_cases h3 : l.length = 64
  ·rw [if_pos h3]
   exact ⟨fun h => (by cases h), fun h => absurd h3 h.2.1⟩
  ·rw [if_neg h3, clashR_zero]
   exact ⟨fun h => ⟨h2, h3, h.2⟩, fun h => ⟨rfl, h.2.2⟩⟩
theorem okM_snoc (l : List Mk) (x : Mk) : okM (l ++ [x]) ↔ okM l ∧ addM x l = 0 := by
 rw [addM_zero]
 unfold okM
 rw [List.pairwise_append]
 simp only [List.length_append, List.length_cons, List.length_nil, List.mem_append, List.mem_cons, List.not_mem_nil, or_false]
 constructor
 ·rintro ⟨h1, h2, h3, _, h4⟩
  exact ⟨⟨fun y hy => h1 y (.inl hy), by omega, h3⟩, h1 x (.inr rfl), by omega, fun y hy => meetB_symm (h4 y hy x rfl)⟩
 ·rintro ⟨⟨h1, h2, h3⟩, h4, h5, h6⟩
  refine ⟨fun y hy => ?_, by omega, h3, List.pairwise_singleton _ _, fun y hy z hz => ?_⟩
  ·rcases hy with hy | rfl
   ·exact h1 y hy
   ·exact h4
  ·subst hz; exact meetB_symm (h6 y hy)
theorem okM_left {a b : List Mk} (h : okM (a ++ b)) : okM a :=
 ⟨fun x hx => h.1 x (List.mem_append_left _ hx), by have := h.2.1; rw [List.length_append] at this; omega, (List.pairwise_append.1 h.2.2).1⟩
theorem okM_perm {a b : List Mk} (hp : a.Perm b) (h : okM a) : okM b :=
 ⟨fun x hx => h.1 x (hp.mem_iff.2 hx), by rw [← hp.length_eq]; exact h.2.1, (hp.pairwise_iff (fun hxy => meetB_symm hxy)).1 h.2.2⟩
theorem chkR_zero : ∀ (l acc : List Mk), okM acc → (chkR acc l = 0 ↔ okM (acc ++ l))
 | [], acc, h => by rw [List.append_nil]; exact ⟨fun _ => h, fun _ => rfl⟩
 | x :: r, acc, h => by
  have e : acc ++ x :: r = (acc ++ [x]) ++ r := by simp
  unfold chkR
  by_cases h0 : addM x acc = 0
  ·rw [if_pos h0, chkR_zero r (acc ++ [x]) ((okM_snoc acc x).2 ⟨h, h0⟩), e]
  ·rw [if_neg h0, e]
   exact ⟨fun h2 => absurd h2 h0, fun h2 => absurd ((okM_snoc acc x).1 (okM_left h2)).2 h0⟩
theorem okM_nil : okM [] := ⟨fun x h => by simp at h, by decide, List.Pairwise.nil⟩
theorem chk_zero (l : List Mk) : chkR [] l = 0 ↔ okM l := by have := chkR_zero l [] okM_nil; rwa [List.nil_append] at this
theorem check_zero (p : Pol) : checkM p = 0 ↔ okM (markS p) ∧ mayD p.d = true ∧ mayT p.t = true := by
 unfold checkM
 by_cases h : chkR [] (markS p) = 0
 ·rw [if_pos h]
  cases hd : mayD p.d <;> cases ht : mayT p.t <;> simp [(chk_zero _).1 h]
 ·rw [if_neg h]
  exact ⟨fun h2 => absurd h2 h, fun h2 => absurd ((chk_zero _).2 h2.1) h⟩
theorem insS_perm (x : Sp) (l : List Sp) : (insS x l).Perm (x :: l) := by
 unfold insS
 refine List.perm_middle.trans (List.Perm.cons x ?_)
 rw [List.takeWhile_append_dropWhile]
theorem sortA_perm : ∀ (l acc : List Sp), (sortA acc l).Perm (acc ++ l)
 | [], acc => by rw [List.append_nil]; exact List.Perm.refl _
 | x :: r, acc => by
  rw [sortA]
  refine (sortA_perm r (insS x acc)).trans ?_
  refine ((insS_perm x acc).append_right r).trans ?_
  exact (List.perm_middle (l₁ := acc) (a := x) (l₂ := r)).symm
theorem sortS_perm (l : List Sp) : (sortS l).Perm l := by have := sortA_perm l []; rwa [List.nil_append] at this
theorem markS_sort (p : Pol) : (markS (sortP p)).Perm (markS p) := by
 unfold markS sortP
 exact ((sortS_perm p.s).map _).append ((sortS_perm p.k).map _)
theorem check_sort {p : Pol} (h : checkM p = 0) : checkM (sortP p) = 0 := by
 rw [check_zero] at h ⊢
 exact ⟨okM_perm (markS_sort p).symm h.1, h.2⟩
theorem lies_range {x : Sp} {k : Bool} (h : liesB x k = true) : 0 ≤ x.f ∧ x.f ≤ x.t ∧ x.t ≤ 65535 := by
 unfold liesB at h
 simp only [Bool.and_eq_true, Bool.or_eq_true, decide_eq_true_eq] at h
 omega
theorem ofM_append (K : Bool) : ∀ (a b : List Mk), ofM K (a ++ b) = ofM K a ++ ofM K b
 | [], b => rfl
 | x :: r, b => by
  rw [List.cons_append, ofM, ofM, ofM_append K r b]
  split <;> rfl
theorem ofM_map (K k : Bool) : ∀ l : List Sp, ofM K (l.map fun x => (⟨x, k⟩ : Mk)) = if k = K then l else []
 | [] => by simp [ofM]
 | x :: r => by
  rw [List.map_cons, ofM, ofM_map K k r]
  split <;> rfl
theorem ofM_mark (p : Pol) : ofM false (markS p) = p.s ∧ ofM true (markS p) = p.k := by
 unfold markS
 rw [ofM_append, ofM_append, ofM_map, ofM_map, ofM_map, ofM_map]
 simp
inductive Spec where
 | sp (k : Bool) (x : Sp)
 | de (n : Int)
 | tr (n : Int)
def Spec.core : Spec → List Tk
 | .sp k x => wordT (if k then sinkL else secretL) :: nmT x.f :: ((if x.t = x.f then [] else [dotsT, nmT x.t]) ++ (if x.b = 255 then [] else [wordT bitsK, nmT x.b]))
 | .de n => [wordT declL, nmT n]
 | .tr n => [wordT traceL, nmT n]
def Spec.fine : Spec → Prop
 | .sp _ x => (0 ≤ x.f ∧ x.f ≤ 65535) ∧ (0 ≤ x.t ∧ x.t ≤ 65535) ∧ 1 ≤ x.b ∧ x.b ≤ 255
 | .de n => 0 ≤ n ∧ n ≤ 65535
 | .tr n => 0 ≤ n ∧ n ≤ 65535
theorem okT_word {l : List UInt8} (h : l ≠ [] ∧ l.all isLet = true) : okT (wordT l) := .inl ⟨rfl, h.1, fun b hb => List.all_eq_true.1 h.2 b hb, rfl⟩
theorem okT_num {n : Int} (h : 0 ≤ n ∧ n ≤ 65535) : okT (nmT n) := .inr (.inl ⟨rfl, rfl, h.1, h.2⟩)
theorem okT_dots : okT dotsT := .inr (.inr ⟨rfl, rfl, rfl⟩)
theorem core_okT {s : Spec} (h : s.fine) : ∀ x ∈ s.core, okT x := by
 intro x hx
 cases s with
 | sp k y =>
  obtain ⟨h1, h2, h3, h4⟩ := h
  unfold Spec.core at hx
  rcases List.mem_cons.1 hx with rfl | hx
  ·cases k
   ·exact okT_word ⟨by decide, by decide⟩
   ·exact okT_word ⟨by decide, by decide⟩
  ·rcases List.mem_cons.1 hx with rfl | hx
   ·exact okT_num h1
   ·rcases List.mem_append.1 hx with hx | hx
    ·split at hx
     ·simp at hx
     ·simp only [List.mem_cons, List.not_mem_nil, or_false] at hx
      rcases hx with rfl | rfl
      ·exact okT_dots
      ·exact okT_num h2
    ·split at hx
     ·simp at hx
     ·simp only [List.mem_cons, List.not_mem_nil, or_false] at hx
      rcases hx with rfl | rfl
      ·exact okT_word ⟨by decide, by decide⟩
      ·exact okT_num ⟨by omega, by omega⟩
 | de n =>
  unfold Spec.core at hx
  simp only [List.mem_cons, List.not_mem_nil, or_false] at hx
  rcases hx with rfl | rfl
  ·exact okT_word ⟨by decide, by decide⟩
  ·exact okT_num h
 | tr n =>
  unfold Spec.core at hx
  simp only [List.mem_cons, List.not_mem_nil, or_false] at hx
  rcases hx with rfl | rfl
  ·exact okT_word ⟨by decide, by decide⟩
  ·exact okT_num h
theorem core_len (s : Spec) : s.core.length ≤ 6 := by
 cases s with
 | sp k y =>
  unfold Spec.core
  simp only [List.length_cons, List.length_append]
  split <;> split <;> simp
 | de n => unfold Spec.core; simp
 | tr n => unfold Spec.core; simp
theorem body_len : ∀ {cs : List Tk} {m : Nat}, (∀ x ∈ cs, (tx x).length ≤ m) → (bodyX cs).length ≤ cs.length * (m + 1)
 | [], m, _ => Nat.zero_le _
 | [x], m, h => by have := h x (by simp); show (tx x).length ≤ 1 * (m + 1); omega
 | x :: y :: r, m, h => by
  have h1 := h x (by simp)
  have h2 := body_len (cs := y :: r) (m := m) (fun z hz => h z (List.mem_cons_of_mem _ hz))
  show (tx x ++ 32 :: bodyX (y :: r)).length ≤ (r.length + 1 + 1) * (m + 1)
  rw [List.length_append, List.length_cons, Nat.add_mul (r.length + 1)]
  have e : (y :: r).length = r.length + 1 := rfl
  rw [e] at h2
  omega
theorem core_tlen {s : Spec} : ∀ x ∈ s.core, x.t.length ≤ 10 := by
 intro x hx
 cases s with
 | sp k y =>
  unfold Spec.core at hx
  rcases List.mem_cons.1 hx with rfl | hx
  ·cases k <;> decide
  ·rcases List.mem_cons.1 hx with rfl | hx
   ·exact Nat.zero_le _
   ·rcases List.mem_append.1 hx with hx | hx
    ·split at hx
     ·simp at hx
     ·simp only [List.mem_cons, List.not_mem_nil, or_false] at hx
      rcases hx with rfl | rfl <;> exact Nat.zero_le _
    ·split at hx
     ·simp at hx
     ·simp only [List.mem_cons, List.not_mem_nil, or_false] at hx
      rcases hx with rfl | rfl
      ·show bitsK.length ≤ 10; decide
      ·exact Nat.zero_le _
 | de n =>
  unfold Spec.core at hx
  simp only [List.mem_cons, List.not_mem_nil, or_false] at hx
  rcases hx with rfl | rfl
  ·show declL.length ≤ 10; decide
  ·exact Nat.zero_le _
 | tr n =>
  unfold Spec.core at hx
  simp only [List.mem_cons, List.not_mem_nil, or_false] at hx
  rcases hx with rfl | rfl
  ·show traceL.length ≤ 10; decide
  ·exact Nat.zero_le _
theorem core_body (s : Spec) : (bodyX s.core).length ≤ 606 := by
  have h1 := body_len (cs := s.core) (m := 100) (fun x hx => textL_len x.k x.t x.n (by have := core_tlen x hx; omega))
  have h2 := core_len s
  have h3 : s.core.length * (100 + 1) ≤ 6 * (100 + 1) := Nat.mul_le_mul_right _ h2
  omega
theorem core_okL {s : Spec} (h : s.fine) : okL s.core := by
 refine ⟨?_, core_okT h, ?_⟩
 ·cases s <;> (unfold Spec.core; simp)
 ·have := core_body s; omega
theorem txt_len : ∀ (ss : List Spec), (∀ s ∈ ss, s.fine) → (txtX (ss.map Spec.core)).length ≤ 607 * ss.length
 | [], _ => Nat.zero_le _
 | s :: r, h => by
  have h1 := core_body s
  have h2 := txt_len r (fun x hx => h x (by simp [hx]))
  show (bodyX s.core ++ [10] ++ txtX (r.map Spec.core)).length ≤ _
  rw [List.length_append, List.length_append]
  simp only [List.length_cons, List.length_nil]
  omega
def foldS : List Spec → List Mk → Int → Bool → Int → Bool → Option Pol
 | [], sp, dn, _, tn, tb => some (sortP (polM sp dn tb tn))
 | .sp k x :: r, sp, dn, db, tn, tb => if addM ⟨x, k⟩ sp = 0 then foldS r (sp ++ [⟨x, k⟩]) dn db tn tb else none
 | .de n :: r, sp, dn, db, tn, tb => if db = false ∧ mayD n = true then foldS r sp n true tn tb else none
 | .tr n :: r, sp, dn, db, tn, tb => if tb = false ∧ mayT n = true then foldS r sp dn db n true else none
theorem map_cons' {l : List Tk} {c : Tk} {r : List Tk} (h : l.map bare = c :: r) : ∃ a l', l = a :: l' ∧ a.k = c.k ∧ a.t = c.t ∧ a.n = c.n ∧ l'.map bare = r := by
 cases l with
 | nil => cases h
 | cons a l' =>
  obtain ⟨h1, h2⟩ := List.cons.inj h
  subst h1
  exact ⟨a, l', rfl, rfl, rfl, rfl, h2⟩
theorem spanM_core (x : Sp) (hb : 1 ≤ x.b ∧ x.b ≤ 255) (l more : List Tk) (h : l.map bare = nmT x.f :: ((if x.t = x.f then [] else [dotsT, nmT x.t]) ++ (if x.b = 255 then [] else [wordT bitsK, nmT x.b])) ++ endK :: more) :
  (spanM l).e = 0 ∧ (spanM l).x = x ∧ (spanM l).r.map bare = more := by
 obtain ⟨xf, xt, xb⟩ := x
 dsimp only at hb h
 obtain ⟨a, l1, rfl, ak, at', an, h1⟩ := map_cons' h
 replace ak : a.k = 2 := ak
 replace an : a.n = xf := an
 by_cases h0 : xt = xf
 ·subst h0
  rw [if_pos rfl] at h1; (try simp only [List.append_eq, List.nil_append, List.cons_append] at h1)
  by_cases h2 : xb = 255
  ·subst h2
   rw [if_pos rfl] at h1; (try simp only [List.append_eq, List.nil_append, List.cons_append] at h1)
   obtain ⟨z, r, rfl, zk, zt, _, h3⟩ := map_cons' h1
   replace zk : z.k = 4 := zk
   replace zt : z.t = [] := zt
   have hm : maskM a a.n (z :: r) = ⟨0, 0, 0, a.line, a.col, ⟨a.n, a.n, 255⟩, r⟩ := by
    unfold maskM
    (try dsimp only)
    rw [if_neg (by rw [zt]; unfold bitsL; simp)]
    unfold endM
    (try dsimp only)
    rw [if_pos zk, if_neg (by omega)]
   have hs : spanM (a :: z :: r) = maskM a a.n (z :: r) := by
    unfold spanM
    (try dsimp only)
    rw [if_pos ak, if_neg (by rw [zk]; decide)]
   rw [hs, hm, an]
   exact ⟨rfl, rfl, h3⟩
  ·rw [if_neg h2] at h1; (try simp only [List.append_eq, List.nil_append, List.cons_append] at h1)
   obtain ⟨d, l2, rfl, dk, dt, _, h3⟩ := map_cons' h1
   obtain ⟨m, l3, rfl, mk, _, mn, h4⟩ := map_cons' h3
   obtain ⟨z, r, rfl, zk, zt, _, h5⟩ := map_cons' h4
   replace dk : d.k = 1 := dk
   replace dt : d.t = bitsL := dt
   replace mk : m.k = 2 := mk
   replace mn : m.n = xb := mn
   replace zk : z.k = 4 := zk
   have hm : maskM a a.n (d :: m :: z :: r) = ⟨0, 0, 0, a.line, a.col, ⟨a.n, a.n, m.n⟩, r⟩ := by
    unfold maskM
    (try dsimp only)
    rw [if_pos dt, if_pos mk]
    unfold endM
    (try dsimp only)
    rw [if_pos zk, if_neg (by rw [mn]; omega)]
   have hs : spanM (a :: d :: m :: z :: r) = maskM a a.n (d :: m :: z :: r) := by
    unfold spanM
    (try dsimp only)
    rw [if_pos ak, if_neg (by rw [dk]; decide)]
   rw [hs, hm, an, mn]
   exact ⟨rfl, rfl, h5⟩
 ·rw [if_neg h0] at h1; (try simp only [List.append_eq, List.nil_append, List.cons_append] at h1)
  obtain ⟨b, l2, rfl, bk, _, _, h3⟩ := map_cons' h1
  obtain ⟨c, l3, rfl, ck, _, cn, h4⟩ := map_cons' h3
  replace bk : b.k = 3 := bk
  replace ck : c.k = 2 := ck
  replace cn : c.n = xt := cn
  have hs : ∀ l, spanM (a :: b :: c :: l) = maskM a c.n l := fun l => by
   unfold spanM
   (try dsimp only)
   rw [if_pos ak, if_pos bk]
   (try dsimp only)
   rw [if_pos ck]
  rw [hs]
  (try simp only [List.append_eq, List.nil_append, List.cons_append] at h4)
  by_cases h2 : xb = 255
  ·subst h2
   rw [if_pos rfl] at h4; (try simp only [List.append_eq, List.nil_append, List.cons_append] at h4)
   obtain ⟨z, r, rfl, zk, zt, _, h5⟩ := map_cons' h4
   replace zk : z.k = 4 := zk
   replace zt : z.t = [] := zt
   have hm : maskM a c.n (z :: r) = ⟨0, 0, 0, a.line, a.col, ⟨a.n, c.n, 255⟩, r⟩ := by
    unfold maskM
    (try dsimp only)
    rw [if_neg (by rw [zt]; unfold bitsL; simp)]
    unfold endM
    (try dsimp only)
    rw [if_pos zk, if_neg (by omega)]
   rw [hm, an, cn]
   exact ⟨rfl, rfl, h5⟩
  ·rw [if_neg h2] at h4; (try simp only [List.append_eq, List.nil_append, List.cons_append] at h4)
   obtain ⟨d, l2, rfl, dk, dt, _, h3⟩ := map_cons' h4
   obtain ⟨m, l3, rfl, mk, _, mn, h4⟩ := map_cons' h3
   obtain ⟨z, r, rfl, zk, zt, _, h5⟩ := map_cons' h4
   replace dt : d.t = bitsL := dt
   replace mk : m.k = 2 := mk
   replace mn : m.n = xb := mn
   replace zk : z.k = 4 := zk
   have hm : maskM a c.n (d :: m :: z :: r) = ⟨0, 0, 0, a.line, a.col, ⟨a.n, c.n, m.n⟩, r⟩ := by
    unfold maskM
    (try dsimp only)
    rw [if_pos dt, if_pos mk]
    unfold endM
    (try dsimp only)
    rw [if_pos zk, if_neg (by rw [mn]; omega)]
   rw [hm, an, cn, mn]
   exact ⟨rfl, rfl, h5⟩
theorem settM_core (told : Bool) (may : Int → Bool) (word : Tk) (n : Int) (ht : told = false) (hm : may n = true) (l more : List Tk) (h : l.map bare = nmT n :: endK :: more) :
  (settM told may word l).e = 0 ∧ (settM told may word l).n = n ∧ (settM told may word l).r.map bare = more := by
 obtain ⟨a, l1, rfl, ak, _, an, h1⟩ := map_cons' h
 obtain ⟨z, r, rfl, zk, _, _, h3⟩ := map_cons' h1
 replace ak : a.k = 2 := ak
 replace an : a.n = n := an
 replace zk : z.k = 4 := zk
 unfold settM
 (try dsimp only)
 rw [if_pos ak]
 (try dsimp only)
 rw [if_pos zk, if_neg (by rw [ht]; simp), if_pos (by rw [an]; exact hm)]
 exact ⟨rfl, an, h3⟩
theorem parse_specs : ∀ (ss : List Spec), (∀ s ∈ ss, s.fine) → ∀ (l : List Tk) (sp : List Mk) (dn : Int) (db : Bool) (tn : Int) (tb : Bool) (f : Nat) (P : Pol), l.map bare = (ss.flatMap fun s => s.core ++ [endK]) → l.length ≤ f → foldS ss sp dn db tn tb = some P → parseL f l sp dn db tn tb = ⟨0, 0, 0, P⟩
 | [], _, l, sp, dn, db, tn, tb, f, P, hl, _, hP => by
  obtain rfl : l = [] := List.map_eq_nil_iff.1 hl
  rw [parseL_nil]
  cases hP
  rfl
 | s :: r, hf, l, sp, dn, db, tn, tb, f, P, hl, hlen, hP => by
  have hr : ∀ s ∈ r, s.fine := fun x hx => hf x (by simp [hx])
  have hs := hf s (by simp)
  rw [List.flatMap_cons, List.append_assoc] at hl
  cases s with
  | sp k x =>
   obtain ⟨word, rest, rfl, wk, wt, _, h1⟩ := map_cons' hl
   replace wt : word.t = if k then sinkL else secretL := wt
   obtain ⟨f', rfl⟩ : ∃ f', f = f' + 1 := ⟨f - 1, by simp only [List.length_cons] at hlen; omega⟩
   obtain ⟨e1, e2, e3⟩ := spanM_core x ⟨hs.2.2.1, hs.2.2.2⟩ rest _ h1
   unfold foldS at hP
   by_cases ha : addM ⟨x, k⟩ sp = 0
   ·rw [if_pos ha] at hP
    have hline : lineM word rest sp dn db tn tb = ⟨0, 0, 0, (spanM rest).r, sp ++ [⟨x, k⟩], dn, db, tn, tb⟩ := by
     have hsp : spLn k word rest sp dn db tn tb = ⟨0, 0, 0, (spanM rest).r, sp ++ [⟨x, k⟩], dn, db, tn, tb⟩ := by
      unfold spLn
      rw [if_neg (by rw [e1]; simp), e2, if_pos ha]
     unfold lineM
     cases k
     ·replace wt : word.t = secretL := wt
      rw [if_pos wt]; exact hsp
     ·replace wt : word.t = sinkL := wt
      rw [if_neg (by rw [wt]; decide), if_pos wt]; exact hsp
    rw [parseL, hline]
    rw [if_neg (by simp)]
    refine parse_specs r hr _ _ _ _ _ _ f' P e3 ?_ hP
    obtain ⟨pp, hpp, hpn⟩ := spanM_tail e1
    have hq := congrArg List.length hpp
    rw [List.length_append] at hq
    simp only [List.length_cons] at hlen
    (try dsimp only)
    omega
   ·rw [if_neg ha] at hP; cases hP
  | de n =>
   obtain ⟨word, rest, rfl, wk, wt, _, h1⟩ := map_cons' hl
   replace wt : word.t = declL := wt
   obtain ⟨f', rfl⟩ : ∃ f', f = f' + 1 := ⟨f - 1, by simp only [List.length_cons] at hlen; omega⟩
   unfold foldS at hP
   by_cases ha : db = false ∧ mayD n = true
   ·rw [if_pos ha] at hP
    obtain ⟨e1, e2, e3⟩ := settM_core db mayD word n ha.1 ha.2 rest _ h1
    have hline : lineM word rest sp dn db tn tb = ⟨0, 0, 0, (settM db mayD word rest).r, sp, n, true, tn, tb⟩ := by
     unfold lineM
     rw [if_neg (by rw [wt]; decide), if_neg (by rw [wt]; decide), if_pos wt, if_neg (by rw [e1]; simp), e2]
    rw [parseL, hline]
    rw [if_neg (by simp)]
    refine parse_specs r hr _ _ _ _ _ _ f' P e3 ?_ hP
    obtain ⟨pp, hpp, hpn⟩ := settM_tail e1
    have hq := congrArg List.length hpp
    rw [List.length_append] at hq
    simp only [List.length_cons] at hlen
    (try dsimp only)
    omega
   ·rw [if_neg ha] at hP; cases hP
  | tr n =>
   obtain ⟨word, rest, rfl, wk, wt, _, h1⟩ := map_cons' hl
   replace wt : word.t = traceL := wt
   obtain ⟨f', rfl⟩ : ∃ f', f = f' + 1 := ⟨f - 1, by simp only [List.length_cons] at hlen; omega⟩
   unfold foldS at hP
   by_cases ha : tb = false ∧ mayT n = true
   ·rw [if_pos ha] at hP
    obtain ⟨e1, e2, e3⟩ := settM_core tb mayT word n ha.1 ha.2 rest _ h1
    have hline : lineM word rest sp dn db tn tb = ⟨0, 0, 0, (settM tb mayT word rest).r, sp, dn, db, n, true⟩ := by
     unfold lineM
     rw [if_neg (by rw [wt]; decide), if_neg (by rw [wt]; decide), if_neg (by rw [wt]; decide), if_pos wt, if_neg (by rw [e1]; simp), e2]
    rw [parseL, hline]
    rw [if_neg (by simp)]
    refine parse_specs r hr _ _ _ _ _ _ f' P e3 ?_ hP
    obtain ⟨pp, hpp, hpn⟩ := settM_tail e1
    have hq := congrArg List.length hpp
    rw [List.length_append] at hq
    simp only [List.length_cons] at hlen
    (try dsimp only)
    omega
   ·rw [if_neg ha] at hP; cases hP
theorem core_bare (s : Spec) : s.core.map bare = s.core := by
 cases s with
 | sp k x =>
  unfold Spec.core
  rw [List.map_cons, List.map_cons, List.map_append]
  congr 2
  congr 1
  ·split <;> rfl
  ·split <;> rfl
 | de n => rfl
 | tr n => rfl
theorem parse_txt {ss : List Spec} (h : ∀ s ∈ ss, s.fine) (hl : ss.length ≤ 100) {P : Pol} (hP : foldS ss [] 0 false 0 false = some P) : parseM (txtX (ss.map Spec.core)) = ⟨0, 0, 0, P⟩ := by
 have hlen := txt_len ss h
 obtain ⟨ps, e1, e2⟩ := scanD_txt (css := ss.map Spec.core) (fun cs hc => by obtain ⟨s, hs, rfl⟩ := List.mem_map.1 hc; exact core_okL (h s hs)) (by
  have : 607 * ss.length ≤ 607 * 100 := Nat.mul_le_mul_left _ hl
  omega)
 unfold parseM
 rw [e2, if_neg (by simp)]
 refine parse_specs ss h ps [] 0 false 0 false ps.length P ?_ (Nat.le_refl _) hP
 rw [e1, List.flatMap_map]
 congr 1
 funext s
 rw [core_bare]
def specOf (m : Mk) : Spec := .sp m.k m.s
def specsP (p : Pol) : List Spec := (markS p).map specOf ++ [.de p.d, .tr p.t]
def Bits (p : Pol) : Prop := (∀ x ∈ p.s, 0 ≤ x.b ∧ x.b ≤ 255) ∧ ∀ x ∈ p.k, 0 ≤ x.b ∧ x.b ≤ 255
theorem Bits.sort {p : Pol} (h : Bits p) : Bits (sortP p) := ⟨fun x hx => h.1 x (sortS_mem hx), fun x hx => h.2 x (sortS_mem hx)⟩
theorem spans_core (k : Bool) : ∀ l : List Sp, spansT (if k then sinkL else secretL) l = (l.map fun x => Spec.sp k x).flatMap fun s => s.core ++ [endK]
 | [] => rfl
 | x :: r => by
  have h := spans_core k r
  unfold spansT at h ⊢
  rw [List.flatMap_cons, List.map_cons, List.flatMap_cons, h]
  congr 1
theorem toks_specs (p : Pol) : toksP p = (specsP p).flatMap fun s => s.core ++ [endK] := by
 have h1 := spans_core false p.s
 have h2 := spans_core true p.k
 simp only [Bool.false_eq_true, if_false, if_true] at h1 h2
 unfold toksP specsP markS
 rw [h1, h2, List.map_append, List.map_map, List.map_map, List.flatMap_append, List.flatMap_append, List.append_assoc]
 rfl
theorem specs_fine {p : Pol} (h : checkM p = 0) (hb : Bits p) : ∀ s ∈ specsP p, s.fine := by
 obtain ⟨h1, h2, h3⟩ := (check_zero p).1 h
 intro s hs
 unfold specsP at hs
 rcases List.mem_append.1 hs with hs | hs
 ·obtain ⟨m, hm, rfl⟩ := List.mem_map.1 hs
  obtain ⟨hl, hb0⟩ := h1.1 m hm
  have hr := lies_range hl
  have hbb : 0 ≤ m.s.b ∧ m.s.b ≤ 255 := by
   unfold markS at hm
   rcases List.mem_append.1 hm with hm | hm
   ·obtain ⟨x, hx, rfl⟩ := List.mem_map.1 hm; exact hb.1 x hx
   ·obtain ⟨x, hx, rfl⟩ := List.mem_map.1 hm; exact hb.2 x hx
  exact ⟨⟨by omega, by omega⟩, ⟨by omega, by omega⟩, by omega, by omega⟩
 ·simp only [List.mem_cons, List.not_mem_nil, or_false] at hs
  unfold mayD at h2
  unfold mayT at h3
  simp only [Bool.and_eq_true, decide_eq_true_eq] at h2 h3
  rcases hs with rfl | rfl
  ·exact ⟨h2.1, by omega⟩
  ·exact ⟨by omega, by omega⟩
theorem specs_len {p : Pol} (h : checkM p = 0) : (specsP p).length ≤ 100 := by
 have := ((check_zero p).1 h).1.2.1
 unfold specsP
 rw [List.length_append, List.length_map]
 simp only [List.length_cons, List.length_nil]
 omega
theorem print_ok {p : Pol} (h : checkM p = 0) (hb : Bits p) : printM p = (txtX ((specsP (sortP p)).map Spec.core), 0) := by
 unfold printM
 rw [if_neg (by rw [h]; simp), toks_specs]
 have hf := specs_fine (check_sort h) hb.sort
 have e := joinR_lines ((specsP (sortP p)).map Spec.core) (fun cs hc => by obtain ⟨s, hs, rfl⟩ := List.mem_map.1 hc; exact core_okL (hf s hs)) none [] (fun _ _ => rfl)
 rw [List.flatMap_map, List.nil_append] at e
 exact e
theorem fold_marks : ∀ (ms acc : List Mk) (r : List Spec) (dn : Int) (db : Bool) (tn : Int) (tb : Bool), okM (acc ++ ms) → foldS (ms.map specOf ++ r) acc dn db tn tb = foldS r (acc ++ ms) dn db tn tb
 | [], acc, r, dn, db, tn, tb, _ => by rw [List.append_nil]; rfl
 | m :: ms, acc, r, dn, db, tn, tb, h => by
  have e : acc ++ m :: ms = (acc ++ [m]) ++ ms := by simp
  rw [e] at h ⊢
  have h0 := ((okM_snoc acc m).1 (okM_left h)).2
  show (if addM ⟨m.s, m.k⟩ acc = 0 then foldS (ms.map specOf ++ r) (acc ++ [⟨m.s, m.k⟩]) dn db tn tb else none) = _
  rw [if_pos h0]
  exact fold_marks ms (acc ++ [m]) r dn db tn tb h
theorem back {p : Pol} (h : checkM p = 0) (hb : Bits p) : parseM (printM p).1 = ⟨0, 0, 0, sortP p⟩ := by
 rw [print_ok h hb]
 have hc := check_sort h
 refine parse_txt (specs_fine hc hb.sort) (specs_len hc) ?_
 obtain ⟨h1, h2, h3⟩ := (check_zero _).1 hc
 unfold specsP
 rw [fold_marks _ _ _ _ _ _ _ (by rw [List.nil_append]; exact h1), List.nil_append]
 unfold foldS
 rw [if_pos ⟨rfl, h2⟩]
 unfold foldS
 rw [if_pos ⟨rfl, h3⟩]
 unfold foldS
 obtain ⟨e1, e2⟩ := ofM_mark (sortP p)
 unfold polM
 rw [e1, e2, if_pos rfl]
 show some (sortP (sortP p)) = _
 rw [sortP_idem]
theorem mark_perm (d t : Int) : ∀ sp : List Mk, (markS ⟨ofM false sp, ofM true sp, d, t⟩).Perm sp
 | [] => List.Perm.refl _
 | x :: r => by
  have h := mark_perm d t r
  unfold markS at h ⊢
  dsimp only at h ⊢
  obtain ⟨xs, xk⟩ := x
  cases xk
  ·have e1 : ofM false (⟨xs, false⟩ :: r) = xs :: ofM false r := rfl
   have e2 : ofM true (⟨xs, false⟩ :: r) = ofM true r := rfl
   rw [e1, e2, List.map_cons, List.cons_append]
   exact List.Perm.cons _ h
  ·have e1 : ofM false (⟨xs, true⟩ :: r) = ofM false r := rfl
   have e2 : ofM true (⟨xs, true⟩ :: r) = xs :: ofM true r := rfl
   rw [e1, e2, List.map_cons]
   exact List.perm_middle.trans (List.Perm.cons _ h)
theorem endM_bits {a : Tk} {tt m ml mc : Int} {l : List Tk} (h : (endM a tt m ml mc l).e = 0) : 1 ≤ (endM a tt m ml mc l).x.b ∧ (endM a tt m ml mc l).x.b ≤ 255 := by
 cases l with
 | nil => cases h
 | cons z r =>
  unfold endM at h ⊢
  dsimp only at h ⊢
  by_cases h4 : z.k = 4
  ·rw [if_pos h4] at h ⊢
   by_cases hm : m < 1 ∨ 255 < m
   ·rw [if_pos hm] at h; cases h
   ·rw [if_neg hm]; dsimp only; omega
  ·rw [if_neg h4] at h
   cases h
theorem maskM_bits {a : Tk} {tt : Int} {l : List Tk} (h : (maskM a tt l).e = 0) : 1 ≤ (maskM a tt l).x.b ∧ (maskM a tt l).x.b ≤ 255 := by
 cases l with
 | nil => cases h
 | cons d r =>
  unfold maskM at h ⊢
  dsimp only at h ⊢
  by_cases hd : d.t = bitsL
  ·rw [if_pos hd] at h ⊢
   cases r with
   | nil => cases h
   | cons m r2 =>
    dsimp only at h ⊢
    by_cases hm : m.k = 2
    ·rw [if_pos hm] at h ⊢; exact endM_bits h
    ·rw [if_neg hm] at h; cases h
  ·rw [if_neg hd] at h ⊢
   exact endM_bits h
theorem spanM_bits {l : List Tk} (h : (spanM l).e = 0) : 1 ≤ (spanM l).x.b ∧ (spanM l).x.b ≤ 255 := by
 cases l with
 | nil => cases h
 | cons a r =>
  unfold spanM at h ⊢
  dsimp only at h ⊢
  by_cases ha : a.k = 2
  ·rw [if_pos ha] at h ⊢
   cases r with
   | nil => cases h
   | cons b r2 =>
    dsimp only at h ⊢
    by_cases hb : b.k = 3
    ·rw [if_pos hb] at h ⊢
     cases r2 with
     | nil => cases h
     | cons c r3 =>
      dsimp only at h ⊢
      by_cases hc : c.k = 2
      ·rw [if_pos hc] at h ⊢; exact maskM_bits h
      ·rw [if_neg hc] at h; cases h
    ·rw [if_neg hb] at h ⊢; exact maskM_bits h
  ·rw [if_neg ha] at h; cases h
theorem settM_may {told : Bool} {may : Int → Bool} {word : Tk} {l : List Tk} (h : (settM told may word l).e = 0) : may (settM told may word l).n = true := by
 cases l with
 | nil => cases h
 | cons a r =>
  unfold settM at h ⊢
  dsimp only at h ⊢
  by_cases ha : a.k = 2
  ·rw [if_pos ha] at h ⊢
   cases r with
   | nil => cases h
   | cons z r2 =>
    dsimp only at h ⊢
    by_cases h4 : z.k = 4
    ·rw [if_pos h4] at h ⊢
     by_cases ht : told = true
     ·rw [if_pos ht] at h; cases h
     ·rw [if_neg ht] at h ⊢
      by_cases hm : may a.n = true
      ·rw [if_pos hm]; exact hm
      ·rw [if_neg hm] at h; cases h
    ·rw [if_neg h4] at h; cases h
  ·rw [if_neg ha] at h; cases h
def Fits (sp : List Mk) (dn : Int) (tb : Bool) (tn : Int) : Prop := okM sp ∧ (∀ m ∈ sp, 1 ≤ m.s.b ∧ m.s.b ≤ 255) ∧ mayD dn = true ∧ (tb = true → mayT tn = true)
theorem spLn_fits {k : Bool} {word : Tk} {l : List Tk} {sp : List Mk} {dn tn : Int} {db tb : Bool} (h : (spLn k word l sp dn db tn tb).e = 0) (hf : Fits sp dn tb tn) :
  Fits (spLn k word l sp dn db tn tb).sp (spLn k word l sp dn db tn tb).dn (spLn k word l sp dn db tn tb).tb (spLn k word l sp dn db tn tb).tn := by
 unfold spLn at h ⊢
 by_cases h0 : (spanM l).e ≠ 0
 ·rw [if_pos h0] at h; exact absurd h h0
 ·rw [if_neg h0] at h ⊢
  by_cases ha : addM ⟨(spanM l).x, k⟩ sp = 0
  ·rw [if_pos ha]
   refine ⟨(okM_snoc sp _).2 ⟨hf.1, ha⟩, fun m hm => ?_, hf.2.2⟩
   rcases List.mem_append.1 hm with hm | hm
   ·exact hf.2.1 m hm
   ·rw [List.mem_singleton.1 hm]; exact spanM_bits (Decidable.not_not.1 h0)
  ·rw [if_neg ha] at h; exact absurd h ha
theorem lineM_fits {word : Tk} {l : List Tk} {sp : List Mk} {dn tn : Int} {db tb : Bool} (h : (lineM word l sp dn db tn tb).e = 0) (hf : Fits sp dn tb tn) :
  Fits (lineM word l sp dn db tn tb).sp (lineM word l sp dn db tn tb).dn (lineM word l sp dn db tn tb).tb (lineM word l sp dn db tn tb).tn := by
 unfold lineM at h ⊢
 by_cases h1 : word.t = secretL
 ·rw [if_pos h1] at h ⊢; exact spLn_fits h hf
 ·rw [if_neg h1] at h ⊢
  by_cases h2 : word.t = sinkL
  ·rw [if_pos h2] at h ⊢; exact spLn_fits h hf
  ·rw [if_neg h2] at h ⊢
   by_cases h3 : word.t = declL
   ·rw [if_pos h3] at h ⊢
    by_cases h0 : (settM db mayD word l).e ≠ 0
    ·rw [if_pos h0] at h; exact absurd h h0
    ·rw [if_neg h0]; exact ⟨hf.1, hf.2.1, settM_may (Decidable.not_not.1 h0), hf.2.2.2⟩
   ·rw [if_neg h3] at h ⊢
    by_cases h4 : word.t = traceL
    ·rw [if_pos h4] at h ⊢
     by_cases h0 : (settM tb mayT word l).e ≠ 0
     ·rw [if_pos h0] at h; exact absurd h h0
     ·rw [if_neg h0]; exact ⟨hf.1, hf.2.1, hf.2.2.1, fun _ => settM_may (Decidable.not_not.1 h0)⟩
    ·rw [if_neg h4] at h; cases h
theorem pol_fits {sp : List Mk} {dn tn : Int} {tb : Bool} (hf : Fits sp dn tb tn) : checkM (sortP (polM sp dn tb tn)) = 0 ∧ Bits (sortP (polM sp dn tb tn)) := by
 have hm : ∀ K, ∀ x ∈ ofM K sp, ∃ m ∈ sp, m.s = x := by
  intro K
  clear hf
  induction sp with
  | nil => intro x hx; simp [ofM] at hx
  | cons y r ih =>
   intro x hx
   rw [ofM] at hx
   split at hx
   ·rcases List.mem_cons.1 hx with rfl | hx
    ·exact ⟨y, by simp, rfl⟩
    ·obtain ⟨m, h1, h2⟩ := ih x hx; exact ⟨m, by simp [h1], h2⟩
   ·obtain ⟨m, h1, h2⟩ := ih x hx; exact ⟨m, by simp [h1], h2⟩
 have hb : ∀ K, ∀ x ∈ ofM K sp, 0 ≤ x.b ∧ x.b ≤ 255 := fun K x hx => by
  obtain ⟨m, h1, rfl⟩ := hm K x hx
  have := hf.2.1 m h1
  omega
 refine ⟨check_sort ((check_zero _).2 ⟨okM_perm (mark_perm _ _ sp).symm hf.1, hf.2.2.1, ?_⟩), Bits.sort ⟨hb false, hb true⟩⟩
 unfold polM
 dsimp only
 split
 ·rename_i h; exact hf.2.2.2 h
 ·decide
theorem parseL_ok : ∀ (f : Nat) (l : List Tk) (sp : List Mk) (dn : Int) (db : Bool) (tn : Int) (tb : Bool), Fits sp dn tb tn → (parseL f l sp dn db tn tb).e = 0 → checkM (parseL f l sp dn db tn tb).p = 0 ∧ Bits (parseL f l sp dn db tn tb).p ∧ sortP (parseL f l sp dn db tn tb).p = (parseL f l sp dn db tn tb).p ∧ (parseL f l sp dn db tn tb).li = 0 ∧ (parseL f l sp dn db tn tb).co = 0
 | f, [], sp, dn, db, tn, tb, hf, _ => by
  rw [parseL_nil]
  exact ⟨(pol_fits hf).1, (pol_fits hf).2, sortP_idem _, rfl, rfl⟩
 | 0, x :: r, sp, dn, db, tn, tb, hf, h => by
  unfold parseL at h
  cases h
 | f + 1, word :: l, sp, dn, db, tn, tb, hf, h => by
  unfold parseL at h ⊢
  by_cases h0 : (lineM word l sp dn db tn tb).e ≠ 0
  ·rw [if_pos h0] at h; exact absurd h h0
  ·rw [if_neg h0] at h ⊢
   exact parseL_ok f _ _ _ _ _ _ (lineM_fits (Decidable.not_not.1 h0) hf) h
theorem parse_ok {l : List UInt8} (h : (parseM l).e = 0) : checkM (parseM l).p = 0 ∧ Bits (parseM l).p ∧ sortP (parseM l).p = (parseM l).p ∧ (parseM l).li = 0 ∧ (parseM l).co = 0 := by
 unfold parseM at h ⊢
 by_cases h0 : (scanD l).e ≠ 0
 ·rw [if_pos h0] at h; exact absurd h h0
 ·rw [if_neg h0] at h ⊢
  exact parseL_ok _ _ _ _ _ _ _ ⟨okM_nil, fun m hm => by simp at hm, by decide, fun h => by cases h⟩ h
def Pl (l : List Tk) : Prop := ∀ z ∈ l, 1 ≤ z.line ∧ 1 ≤ z.col
def OutPl (o : Out) : Prop := Pl o.l ∧ (o.e ≠ 0 → 1 ≤ o.line ∧ 1 ≤ o.col)
theorem endT_pl {n : Int} {last : Nat} {acc : List Tk} (hn : 1 ≤ n) (h : Pl acc) : OutPl (endT n last acc) := by
 refine ⟨?_, fun h => absurd rfl h⟩
 unfold endT
 dsimp only
 split
 ·exact fun z hz => by simp at hz
 ·intro z hz
  rcases List.mem_append.1 hz with hz | hz
  ·exact h z hz
  ·rw [List.mem_singleton.1 hz]; exact ⟨hn, by dsimp only; omega⟩
theorem toksR_pl {n : Int} (hn : 1 ≤ n) (l : List UInt8) : ∀ (f k last : Nat) (acc : List Tk), Pl acc → OutPl (toksR n l f k last acc)
 | 0, _, last, acc, h => endT_pl hn h
 | f + 1, k, last, acc, h => by
  unfold toksR
  cases hl : l[k]? with
  | none => exact endT_pl hn h
  | some b =>
   dsimp only
   by_cases h1 : b = 35
   ·rw [if_pos h1]; exact endT_pl hn h
   ·rw [if_neg h1]
    by_cases h2 : isBlank b = true
    ·rw [if_pos h2]; exact toksR_pl hn l f _ _ acc h
    ·rw [if_neg h2]
     by_cases h3 : (oneD (l.drop k)).e ≠ 0
     ·rw [if_pos h3]
      exact ⟨fun z hz => by simp at hz, fun _ => ⟨hn, by dsimp only; omega⟩⟩
     ·rw [if_neg h3]
      refine toksR_pl hn l f _ _ _ (fun z hz => ?_)
      rcases List.mem_append.1 hz with hz | hz
      ·exact h z hz
      ·rw [List.mem_singleton.1 hz]; exact ⟨hn, by dsimp only; omega⟩
theorem lineD_pl {n : Int} (hn : 1 ≤ n) (l : List UInt8) : OutPl (lineD n l) := by
 unfold lineD
 split
 ·exact ⟨fun z hz => by simp at hz, fun _ => ⟨hn, by dsimp only; omega⟩⟩
 ·exact toksR_pl hn l _ _ _ _ (fun z hz => by simp at hz)
theorem scanR_pl : ∀ (ls : List (List UInt8)) (n : Int) (acc : List Tk), 1 ≤ n → Pl acc → OutPl (scanR ls n acc)
 | [], n, acc, _, h => ⟨h, fun h => absurd rfl h⟩
 | x :: r, n, acc, hn, h => by
  unfold scanR
  by_cases h0 : (lineD n x).e ≠ 0
  ·rw [if_pos h0]
   exact ⟨fun z hz => by simp at hz, fun _ => ⟨hn, ((lineD_pl hn x).2 h0).2⟩⟩
  ·rw [if_neg h0]
   refine scanR_pl r _ _ (by omega) (fun z hz => ?_)
   rcases List.mem_append.1 hz with hz | hz
   ·exact h z hz
   ·exact (lineD_pl hn x).1 z hz
theorem scanD_pl {l : List UInt8} (h : l.length ≤ 65536) : OutPl (scanD l) := by
 rw [scanD_short l h]
 exact scanR_pl _ _ _ (by decide) (fun z hz => by simp at hz)
theorem Pl.tail {a b : List Tk} (h : Pl (a ++ b)) : Pl b := fun z hz => h z (List.mem_append_right _ hz)
theorem endM_pl {a : Tk} {tt m ml mc : Int} {l : List Tk} (hg : Good l) (hp : Pl l) (ha : 1 ≤ a.line ∧ 1 ≤ a.col) (hm : ¬ (m < 1 ∨ 255 < m) ∨ 1 ≤ ml ∧ 1 ≤ mc) :
  ((endM a tt m ml mc l).e ≠ 0 → 1 ≤ (endM a tt m ml mc l).li ∧ 1 ≤ (endM a tt m ml mc l).co) ∧ ((endM a tt m ml mc l).e = 0 → 1 ≤ (endM a tt m ml mc l).fl ∧ 1 ≤ (endM a tt m ml mc l).fc) := by
 obtain ⟨z, r, rfl⟩ := hg.cons
 unfold endM
 dsimp only
 by_cases h4 : z.k = 4
 ·rw [if_pos h4]
  by_cases h5 : m < 1 ∨ 255 < m
  ·rw [if_pos h5]
   exact ⟨fun _ => hm.resolve_left (fun h => h h5), fun h => by cases h⟩
  ·rw [if_neg h5]
   exact ⟨fun h => absurd rfl h, fun _ => ha⟩
 ·rw [if_neg h4]
  exact ⟨fun _ => hp z (by simp), fun h => by cases h⟩
theorem maskM_pl {a : Tk} {tt : Int} {l : List Tk} (hg : Good l) (hp : Pl l) (ha : 1 ≤ a.line ∧ 1 ≤ a.col) :
  ((maskM a tt l).e ≠ 0 → 1 ≤ (maskM a tt l).li ∧ 1 ≤ (maskM a tt l).co) ∧ ((maskM a tt l).e = 0 → 1 ≤ (maskM a tt l).fl ∧ 1 ≤ (maskM a tt l).fc) := by
 obtain ⟨d, r, rfl⟩ := hg.cons
 unfold maskM
 dsimp only
 by_cases hd : d.t = bitsL
 ·rw [if_pos hd]
  have hg1 := hg.tail_bits hd
  obtain ⟨m, r2, rfl⟩ := hg1.cons
  dsimp only
  by_cases hm : m.k = 2
  ·rw [if_pos hm]
   exact endM_pl (hg1.tail (by rw [hm]; decide)) (fun z hz => hp z (by simp [hz])) ha (.inr (hp m (by simp)))
  ·rw [if_neg hm]
   exact ⟨fun _ => hp m (by simp), fun h => by cases h⟩
 ·rw [if_neg hd]
  exact endM_pl hg hp ha (.inl (by omega))
theorem spanM_pl {l : List Tk} (hg : Good l) (hp : Pl l) :
  ((spanM l).e ≠ 0 → 1 ≤ (spanM l).li ∧ 1 ≤ (spanM l).co) ∧ ((spanM l).e = 0 → 1 ≤ (spanM l).fl ∧ 1 ≤ (spanM l).fc) := by
 obtain ⟨a, r, rfl⟩ := hg.cons
 unfold spanM
 dsimp only
 by_cases ha : a.k = 2
 ·rw [if_pos ha]
  have hg1 := hg.tail (by rw [ha]; decide)
  have hpa := hp a (by simp)
  obtain ⟨b, r2, rfl⟩ := hg1.cons
  dsimp only
  by_cases hb : b.k = 3
  ·rw [if_pos hb]
   have hg2 := hg1.tail (by rw [hb]; decide)
   obtain ⟨c, r3, rfl⟩ := hg2.cons
   dsimp only
   by_cases hc : c.k = 2
   ·rw [if_pos hc]
    exact maskM_pl (hg2.tail (by rw [hc]; decide)) (fun z hz => hp z (by simp [hz])) hpa
   ·rw [if_neg hc]
    exact ⟨fun _ => hp c (by simp), fun h => by cases h⟩
  ·rw [if_neg hb]
   exact maskM_pl hg1 (fun z hz => hp z (by simp [List.mem_cons.1 hz])) hpa
 ·rw [if_neg ha]
  exact ⟨fun _ => hp a (by simp), fun h => by cases h⟩
theorem settM_pl {told : Bool} {may : Int → Bool} {word : Tk} {l : List Tk} (hg : Good l) (hp : Pl l) (hw : 1 ≤ word.line ∧ 1 ≤ word.col) (h : (settM told may word l).e ≠ 0) : 1 ≤ (settM told may word l).li ∧ 1 ≤ (settM told may word l).co := by
 obtain ⟨a, r, rfl⟩ := hg.cons
 unfold settM at h ⊢
 dsimp only at h ⊢
 by_cases ha : a.k = 2
 ·rw [if_pos ha] at h ⊢
  obtain ⟨z, r2, rfl⟩ := (hg.tail (by rw [ha]; decide)).cons
  dsimp only at h ⊢
  by_cases h4 : z.k = 4
  ·rw [if_pos h4] at h ⊢
   by_cases ht : told = true
   ·rw [if_pos ht]; exact hw
   ·rw [if_neg ht] at h ⊢
    by_cases hm : may a.n = true
    ·rw [if_pos hm] at h; exact absurd rfl h
    ·rw [if_neg hm]; exact hp a (by simp)
  ·rw [if_neg h4]; exact hp z (by simp)
 ·rw [if_neg ha]; exact hp a (by simp)
theorem spLn_pl {k : Bool} {word : Tk} {l : List Tk} {sp : List Mk} {dn tn : Int} {db tb : Bool} (hg : Good l) (hp : Pl l) (hw : 1 ≤ word.line ∧ 1 ≤ word.col) (h : (spLn k word l sp dn db tn tb).e ≠ 0) : 1 ≤ (spLn k word l sp dn db tn tb).li ∧ 1 ≤ (spLn k word l sp dn db tn tb).co := by
 have hs := spanM_pl hg hp
 unfold spLn at h ⊢
 by_cases h0 : (spanM l).e ≠ 0
 ·rw [if_pos h0]; exact hs.1 h0
 ·rw [if_neg h0] at h ⊢
  have hs2 := hs.2 (Decidable.not_not.1 h0)
  by_cases ha : addM ⟨(spanM l).x, k⟩ sp = 0
  ·rw [if_pos ha] at h; exact absurd rfl h
  ·rw [if_neg ha]
   dsimp only
   by_cases h10 : addM ⟨(spanM l).x, k⟩ sp = 10
   ·rw [if_pos h10, if_pos h10]; exact hs2
   ·rw [if_neg h10, if_neg h10]; exact hw
theorem lineM_pl {word : Tk} {l : List Tk} {sp : List Mk} {dn tn : Int} {db tb : Bool} (hg : word.t ≠ [] → Good l) (hp : Pl l) (hw : 1 ≤ word.line ∧ 1 ≤ word.col) (h : (lineM word l sp dn db tn tb).e ≠ 0) : 1 ≤ (lineM word l sp dn db tn tb).li ∧ 1 ≤ (lineM word l sp dn db tn tb).co := by
 unfold lineM at h ⊢
 by_cases h1 : word.t = secretL
 ·rw [if_pos h1] at h ⊢; exact spLn_pl (hg (by rw [h1]; decide)) hp hw h
 ·rw [if_neg h1] at h ⊢
  by_cases h2 : word.t = sinkL
  ·rw [if_pos h2] at h ⊢; exact spLn_pl (hg (by rw [h2]; decide)) hp hw h
  ·rw [if_neg h2] at h ⊢
   by_cases h3 : word.t = declL
   ·rw [if_pos h3] at h ⊢
    by_cases h0 : (settM db mayD word l).e ≠ 0
    ·rw [if_pos h0]; exact settM_pl (hg (by rw [h3]; decide)) hp hw h0
    ·rw [if_neg h0] at h; exact absurd rfl h
   ·rw [if_neg h3] at h ⊢
    by_cases h4 : word.t = traceL
    ·rw [if_pos h4] at h ⊢
     by_cases h0 : (settM tb mayT word l).e ≠ 0
     ·rw [if_pos h0]; exact settM_pl (hg (by rw [h4]; decide)) hp hw h0
     ·rw [if_neg h0] at h; exact absurd rfl h
    ·rw [if_neg h4]; exact hw
theorem parseL_pl : ∀ (f : Nat) (l : List Tk) (sp : List Mk) (dn : Int) (db : Bool) (tn : Int) (tb : Bool), l.length ≤ f → Whole l → Pl l → sp.length ≤ 64 → (parseL f l sp dn db tn tb).e ≠ 0 → (parseL f l sp dn db tn tb).p = noPol ∧ 1 ≤ (parseL f l sp dn db tn tb).li ∧ 1 ≤ (parseL f l sp dn db tn tb).co
 | f, [], sp, dn, db, tn, tb, _, _, _, _, h => by rw [parseL_nil] at h; exact absurd rfl h
 | 0, x :: r, sp, dn, db, tn, tb, hf, _, _, _, _ => by simp at hf
 | f + 1, word :: l, sp, dn, db, tn, tb, hf, hw, hp, hsp, h => by
  unfold parseL at h ⊢
  by_cases h0 : (lineM word l sp dn db tn tb).e ≠ 0
  ·rw [if_pos h0]
   exact ⟨rfl, lineM_pl (fun ht => hw.good ht) (fun z hz => hp z (by simp [hz])) (hp word (by simp)) h0⟩
  ·rw [if_neg h0] at h ⊢
   obtain ⟨⟨pp, hpp, hpn⟩, hl⟩ := lineM_ok (Decidable.not_not.1 h0) hsp
   refine parseL_pl f _ _ _ _ _ _ ?_ ?_ ?_ hl h
   ·have e := congrArg List.length hpp
    rw [List.length_append] at e
    simp only [List.length_cons] at hf
    omega
   ·have hw2 := hw
    rw [hpp] at hw2
    exact Whole.tail (a := word :: pp) hw2
   ·have hp2 := hp
    rw [hpp] at hp2
    exact Pl.tail (a := word :: pp) hp2
theorem parse_err {l : List UInt8} (hl : l.length ≤ 65536) (h : (parseM l).e ≠ 0) : (parseM l).p = noPol ∧ 1 ≤ (parseM l).li ∧ 1 ≤ (parseM l).co := by
 have hs := scanD_pl hl
 unfold parseM at h ⊢
 by_cases h0 : (scanD l).e ≠ 0
 ·rw [if_pos h0]; exact ⟨rfl, hs.2 h0⟩
 ·rw [if_neg h0] at h ⊢
  exact parseL_pl _ _ _ _ _ _ _ (Nat.le_refl _) (scanD_whole l) hs.1 (by simp) h
end Go.Proofs.YtjcmblbnbpikfaaGreatDoor
