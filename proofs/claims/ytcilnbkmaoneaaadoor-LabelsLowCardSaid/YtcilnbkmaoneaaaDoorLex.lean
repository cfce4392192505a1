/-
  Layer 6: the tokens of texts, by lists of bytes.
-/
import Derived.Test.YtcilnbkmaoneaaaDoorBase
set_option linter.unusedSimpArgs false
set_option linter.unusedVariables false
namespace Go.Proofs.YtcilnbkmaoneaaaDoor
open Go.RowKit Go.PlainAid

/-- A small letter; a digit's number (99: none); a digit of a base; what may not stand right behind a word or a number; a blank. -/
def isLet (b : UInt8) : Bool := decide (97 ≤ b.toNat) && decide (b.toNat ≤ 122)
def digN (b : UInt8) : Nat := if 48 ≤ b.toNat ∧ b.toNat ≤ 57 then b.toNat - 48 else if 97 ≤ b.toNat ∧ b.toNat ≤ 102 then b.toNat - 87 else 99
def isDig (base : Nat) (b : UInt8) : Bool := decide (digN b < base)
def isGlue (b : UInt8) : Bool := isLet b || isDig 10 b || b == 36
def isBlank (b : UInt8) : Bool := b == 32 || b == 9
/-- How far bytes of a kind go from a place on. -/
def runL (p : UInt8 → Bool) (l : List UInt8) (k : Nat) : Nat := k + ((l.drop k).takeWhile p).length
theorem runL_stop (p : UInt8 → Bool) (l : List UInt8) (k : Nat) (h : l.length ≤ k) : runL p l k = k := by
  unfold runL; rw [List.drop_eq_nil_of_le h]; rfl
theorem runL_no (p : UInt8 → Bool) (l : List UInt8) (k : Nat) (h : k < l.length) (hp : p l[k] = false) : runL p l k = k := by
  unfold runL; rw [List.drop_eq_getElem_cons h, List.takeWhile_cons_of_neg (by simp [hp])]; rfl
theorem runL_yes (p : UInt8 → Bool) (l : List UInt8) (k : Nat) (h : k < l.length) (hp : p l[k] = true) : runL p l k = runL p l (k + 1) := by
  unfold runL; rw [List.drop_eq_getElem_cons h, List.takeWhile_cons_of_pos hp, List.length_cons]; omega
theorem runL_ge (p : UInt8 → Bool) (l : List UInt8) (k : Nat) : k ≤ runL p l k := by unfold runL; omega
theorem runL_le (p : UInt8 → Bool) (l : List UInt8) (k : Nat) (h : k ≤ l.length) : runL p l k ≤ l.length := by
  unfold runL
  have := (List.takeWhile_sublist p (l := l.drop k)).length_le
  rw [List.length_drop] at this
  omega
/-- Whether such a byte stands at a place. -/
def glueAt (l : List UInt8) (k : Nat) : Bool := match l[k]? with | some b => isGlue b | none => false
/-- The number of digits to a base, going on from n, no more than 65536. -/
def numV (base : Nat) : List UInt8 → Int → Int
  | [], n => n
  | b :: r, n => if isDig base b then numV base r (min 65536 (n * base + digN b)) else n
/-- A token's kind, text and number, how many bytes it has, the error. -/
structure OneT where
  k : Int
  t : List UInt8
  n : Int
  len : Nat
  e : Int
def oneNo (e : Int) : OneT := ⟨0, [], 0, 0, e⟩
/-- The number that begins at a place of l. -/
def oneNum (base : Nat) (l : List UInt8) (k : Nat) : OneT :=
  let to := runL (isDig base) l k
  if to = k ∨ glueAt l to = true then oneNo 11 else if 65535 < numV base (l.drop k) 0 then oneNo 10 else ⟨2, [], numV base (l.drop k) 0, to, 0⟩
def oneWord (l : List UInt8) : OneT :=
  let to := runL isLet l 0
  if glueAt l to = true then oneNo 11 else ⟨1, l.take to, 0, to, 0⟩
/-- The token with which l begins. -/
def oneD (l : List UInt8) : OneT := match l[0]? with
  | none => oneNo 22
  | some b =>
    if isLet b then oneWord l
    else if b = 46 then (if l[1]? = some 46 then ⟨3, [], 0, 2, 0⟩ else oneNo 11)
    else if b = 36 then oneNum 16 l 1
    else if isDig 10 b then oneNum 10 l 0
    else oneNo 22
/-- A token: kind, text, number, line, column. -/
structure Tk where
  k : Int
  t : List UInt8
  n : Int
  line : Int
  col : Int
def Tk.cells (x : Tk) : List Value := [.int .i64 x.k, .string (txB x.t), .int .i64 x.n, .int .i64 x.line, .int .i64 x.col]
def cellsT (l : List Tk) : List Value := l.flatMap Tk.cells
/-- What a line, or a text, comes to: its tokens; or the line and column where it is wrong, and the error. -/
structure Out where
  l : List Tk
  line : Int
  col : Int
  e : Int
def endT (n : Int) (last : Nat) (acc : List Tk) : Out := ⟨if acc = [] then [] else acc ++ [⟨4, [], 0, n, (last : Int) + 1⟩], 0, 0, 0⟩
/-- The tokens of a line from a place on. -/
def toksR (n : Int) (l : List UInt8) : Nat → Nat → Nat → List Tk → Out
  | 0, _, last, acc => endT n last acc
  | f + 1, at', last, acc => match l[at']? with
    | none => endT n last acc
    | some b => if b = 35 then endT n last acc else if isBlank b then toksR n l f (at' + 1) last acc else
      let o := oneD (l.drop at')
      if o.e ≠ 0 then ⟨[], n, (at' : Int) + 1, o.e⟩ else toksR n l f (at' + o.len) (at' + o.len) (acc ++ [⟨o.k, o.t, o.n, n, (at' : Int) + 1⟩])
def lineD (n : Int) (l : List UInt8) : Out := if 1000 < l.length then ⟨[], n, 1001, 12⟩ else toksR n l l.length 0 0 []
/-- The lines of a text, where the first one has begun already. -/
def linesA (cur : List UInt8) : List UInt8 → List (List UInt8)
  | [] => [cur]
  | x :: r => if x = 10 then cur :: linesA [] r else linesA (cur ++ [x]) r
def scanR : List (List UInt8) → Int → List Tk → Out
  | [], _, acc => ⟨acc, 0, 0, 0⟩
  | x :: r, n, acc => if (lineD n x).e ≠ 0 then ⟨[], n, (lineD n x).col, (lineD n x).e⟩ else scanR r (n + 1) (acc ++ (lineD n x).l)
/-- The tokens of a text. -/
def scanD (l : List UInt8) : Out := if 65536 < l.length then ⟨[], 0, 0, 12⟩ else scanR (linesA [] l) 1 []

theorem cellsT_append (a b : List Tk) : cellsT (a ++ b) = cellsT a ++ cellsT b := by unfold cellsT; rw [List.flatMap_append]
theorem cellsT_one (x : Tk) : cellsT [x] = x.cells := by simp [cellsT]
theorem cellsT_len : ∀ l : List Tk, (cellsT l).length = l.length * 5
  | [] => rfl
  | x :: r => by
    have := cellsT_len r
    show (x.cells ++ cellsT r).length = _
    rw [List.length_append, this, List.length_cons]
    show 5 + _ = _
    omega
theorem cellsT_one_cell (l : List Tk) : ∀ u ∈ cellsT l, u.oneCell' = true := by
  intro u hu
  obtain ⟨x, _, hx⟩ := List.mem_flatMap.1 hu
  simp only [Tk.cells, List.mem_cons, List.not_mem_nil, or_false] at hx
  rcases hx with rfl | rfl | rfl | rfl | rfl <;> rfl
/-- The token's places in its row. -/
theorem cellsT_at : ∀ (l : List Tk) (j : Nat) (x : Tk), l[j]? = some x → (cellsT l)[5 * j]? = some (.int .i64 x.k) ∧ (cellsT l)[5 * j + 1]? = some (.string (txB x.t)) ∧ (cellsT l)[5 * j + 2]? = some (.int .i64 x.n) ∧ (cellsT l)[5 * j + 3]? = some (.int .i64 x.line) ∧ (cellsT l)[5 * j + 4]? = some (.int .i64 x.col)
  | y :: r, 0, x, h => by
    obtain rfl : y = x := by simpa using h
    exact ⟨rfl, rfl, rfl, rfl, rfl⟩
  | y :: r, j + 1, x, h => by
    obtain ⟨h0, h1, h2, h3, h4⟩ := cellsT_at r j x (by simpa using h)
    have e : ∀ i, (cellsT (y :: r))[5 * (j + 1) + i]? = (cellsT r)[5 * j + i]? := fun i => by
      show (y.cells ++ cellsT r)[_]? = _
      rw [List.getElem?_append_right (by show 5 ≤ _; omega)]
      show (cellsT r)[5 * (j + 1) + i - 5]? = _
      congr 1
      omega
    exact ⟨(e 0).trans h0, (e 1).trans h1, (e 2).trans h2, (e 3).trans h3, (e 4).trans h4⟩
theorem numV_bounds (base : Nat) : ∀ (l : List UInt8) (n : Int), 0 ≤ n ∧ n ≤ 65536 → 0 ≤ numV base l n ∧ numV base l n ≤ 65536
  | [], n, h => h
  | b :: r, n, h => by
    unfold numV
    split
    · refine numV_bounds base r _ ⟨?_, by omega⟩
      have : 0 ≤ n * base := Int.mul_nonneg h.1 (by omega)
      omega
    · exact h
theorem digN_lt (b : UInt8) : digN b ≤ 99 := by unfold digN; have := b.toNat_lt; split; omega; split <;> omega
/-- The bytes' kinds, by the program's own lists. -/
def lettersL : List UInt8 := [97, 98, 99, 100, 101, 102, 103, 104, 105, 106, 107, 108, 109, 110, 111, 112, 113, 114, 115, 116, 117, 118, 119, 120, 121, 122]
def digitsL : List UInt8 := [48, 49, 50, 51, 52, 53, 54, 55, 56, 57]
def hexesL : List UInt8 := [48, 49, 50, 51, 52, 53, 54, 55, 56, 57, 97, 98, 99, 100, 101, 102]
def solidL : List UInt8 := lettersL ++ digitsL ++ [36]
theorem in_letters (b : UInt8) : lettersL.contains b = isLet b := by
  have := all_bytes (fun b => lettersL.contains b == isLet b) (by decide +kernel) b
  simpa using this
theorem in_digits (b : UInt8) : digitsL.contains b = isDig 10 b := by
  have := all_bytes (fun b => digitsL.contains b == isDig 10 b) (by decide +kernel) b
  simpa using this
theorem in_hexes (b : UInt8) : hexesL.contains b = isDig 16 b := by
  have := all_bytes (fun b => hexesL.contains b == isDig 16 b) (by decide +kernel) b
  simpa using this
theorem in_solid (b : UInt8) : solidL.contains b = isGlue b := by
  have := all_bytes (fun b => solidL.contains b == isGlue b) (by decide +kernel) b
  simpa using this
theorem in_blanks (b : UInt8) : ([32, 9] : List UInt8).contains b = isBlank b := by
  have := all_bytes (fun b => ([32, 9] : List UInt8).contains b == isBlank b) (by decide +kernel) b
  simpa using this
theorem cells5_at {W : World} (T : TypeId) (x : Tk) : ∀ j u, (cellsT [x])[j]? = some u → (W.alloc (.cells #[.int .i64 x.k, .string (txB x.t), .int .i64 x.n, .int .i64 x.line, .int .i64 x.col] T)).cell? ((⟨W.heap.size, 0, none⟩ : Addr).add j) = some u := by
  intro j u h
  rw [Addr.add_lit, Nat.zero_add]
  have hh := heap_alloc_new W (.cells #[.int .i64 x.k, .string (txB x.t), .int .i64 x.n, .int .i64 x.line, .int .i64 x.col] T)
  simp only [World.cell?, hh]
  rw [← h, cellsT_one]
  simp [Tk.cells]
/-- A token that may be: its bytes. -/
theorem oneNum_len (base : Nat) (l : List UInt8) (k : Nat) (hk : k ≤ l.length) (h : (oneNum base l k).e = 0) : 1 ≤ (oneNum base l k).len ∧ (oneNum base l k).len ≤ l.length := by
  unfold oneNum at h ⊢
  have h1 := runL_le (isDig base) l k hk
  have h2 := runL_ge (isDig base) l k
  dsimp only at h ⊢
  split at h
  · cases h
  · rename_i hn
    rw [if_neg hn]
    split at h
    · cases h
    · rename_i hn2
      rw [if_neg hn2]
      dsimp only
      omega
theorem oneD_len (l : List UInt8) (h : (oneD l).e = 0) : 1 ≤ (oneD l).len ∧ (oneD l).len ≤ l.length := by
  unfold oneD at h ⊢
  cases hl : l[0]? with
  | none => rw [hl] at h; cases h
  | some b =>
    rw [hl] at h
    have h0 : 0 < l.length := (List.getElem?_eq_some_iff.1 hl).1
    have hb : l[0] = b := (List.getElem?_eq_some_iff.1 hl).2
    dsimp only at h ⊢
    by_cases c1 : isLet b = true
    · rw [if_pos c1] at h ⊢
      unfold oneWord at h ⊢
      dsimp only at h ⊢
      split at h
      · cases h
      · rename_i hn
        rw [if_neg hn]
        dsimp only
        have h1 := runL_le isLet l 0 (by omega)
        have h2 := runL_ge isLet l (0 + 1)
        rw [runL_yes isLet l 0 h0 (by rw [hb]; exact c1)] at h1 ⊢
        omega
    · rw [if_neg c1] at h ⊢
      by_cases c2 : b = 46
      · rw [if_pos c2] at h ⊢
        split at h
        · rename_i hn
          rw [if_pos hn]
          have := (List.getElem?_eq_some_iff.1 hn).1
          dsimp only
          omega
        · cases h
      · rw [if_neg c2] at h ⊢
        by_cases c3 : b = 36
        · rw [if_pos c3] at h ⊢
          exact oneNum_len 16 l 1 h0 h
        · rw [if_neg c3] at h ⊢
          by_cases c4 : isDig 10 b = true
          · rw [if_pos c4] at h ⊢
            exact oneNum_len 10 l 0 (by omega) h
          · rw [if_neg c4] at h; cases h
/-- What a line's walk comes to, step by step. -/
theorem toksR_end (n : Int) (l : List UInt8) (f k last : Nat) (acc : List Tk) (h : l.length ≤ k) : toksR n l f k last acc = endT n last acc := by
  cases f with
  | zero => rfl
  | succ f => unfold toksR; rw [List.getElem?_eq_none h]
theorem toksR_remark (n : Int) (l : List UInt8) (f k last : Nat) (acc : List Tk) (h : k < l.length) (hb : at8 l k = 35) : toksR n l f k last acc = endT n last acc := by
  cases f with
  | zero => rfl
  | succ f => unfold toksR; rw [at8_some l k h]; dsimp only; rw [if_pos hb]
theorem toksR_blank (n : Int) (l : List UInt8) (f k last : Nat) (acc : List Tk) (h : k < l.length) (h0 : at8 l k ≠ 35) (hb : isBlank (at8 l k) = true) : toksR n l (f + 1) k last acc = toksR n l f (k + 1) last acc := by
  rw [toksR, at8_some l k h]; dsimp only; rw [if_neg h0, if_pos hb]
theorem toksR_err (n : Int) (l : List UInt8) (f k last : Nat) (acc : List Tk) (h : k < l.length) (h0 : at8 l k ≠ 35) (hb : isBlank (at8 l k) = false) (he : (oneD (l.drop k)).e ≠ 0) : toksR n l (f + 1) k last acc = ⟨[], n, (k : Int) + 1, (oneD (l.drop k)).e⟩ := by
  rw [toksR, at8_some l k h]; dsimp only; rw [if_neg h0, if_neg (by rw [hb]; simp), if_pos he]
theorem toksR_tok (n : Int) (l : List UInt8) (f k last : Nat) (acc : List Tk) (h : k < l.length) (h0 : at8 l k ≠ 35) (hb : isBlank (at8 l k) = false) (he : (oneD (l.drop k)).e = 0) :
    toksR n l (f + 1) k last acc = toksR n l f (k + (oneD (l.drop k)).len) (k + (oneD (l.drop k)).len) (acc ++ [⟨(oneD (l.drop k)).k, (oneD (l.drop k)).t, (oneD (l.drop k)).n, n, (k : Int) + 1⟩]) := by
  rw [toksR, at8_some l k h]; dsimp only; rw [if_neg h0, if_neg (by rw [hb]; simp), if_neg (by rw [he]; simp)]
end Go.Proofs.YtcilnbkmaoneaaaDoor
