/-
  Layer 6: how many tokens a line has; a text's lines, step by step.
-/
import Derived.Test.YtcilnbkmaoneaaaDoorLex
set_option linter.unusedSimpArgs false
set_option linter.unusedVariables false
namespace Go.Proofs.YtcilnbkmaoneaaaDoor
open Go.RowKit Go.PlainAid

theorem toksR_len (n : Int) (l : List UInt8) : ∀ (f k last : Nat) (acc : List Tk), k ≤ l.length → acc.length ≤ k → (toksR n l f k last acc).l.length ≤ l.length + 1
  | 0, k, last, acc, hk, ha => by
    show (endT n last acc).l.length ≤ _
    unfold endT
    dsimp only
    split
    · simp
    · rw [List.length_append]; simp only [List.length_cons, List.length_nil]; omega
  | f + 1, k, last, acc, hk, ha => by
    have hend : (endT n last acc).l.length ≤ l.length + 1 := by
      unfold endT
      dsimp only
      split
      · simp
      · rw [List.length_append]; simp only [List.length_cons, List.length_nil]; omega
    by_cases hlt : k < l.length
    · by_cases h35 : at8 l k = 35
      · rw [toksR_remark n l _ k last acc hlt h35]; exact hend
      · cases hbl : isBlank (at8 l k)
        · by_cases he : (oneD (l.drop k)).e = 0
          · rw [toksR_tok n l f k last acc hlt h35 hbl he]
            have h := oneD_len (l.drop k) he
            rw [List.length_drop] at h
            refine toksR_len n l f _ _ _ (by omega) ?_
            rw [List.length_append]; simp only [List.length_cons, List.length_nil]; omega
          · rw [toksR_err n l f k last acc hlt h35 hbl he]; simp
        · rw [toksR_blank n l f k last acc hlt h35 hbl]
          exact toksR_len n l f _ _ _ (by omega) (by omega)
    · rw [toksR_end n l _ k last acc (by omega)]; exact hend
theorem lineD_len (n : Int) (l : List UInt8) : (lineD n l).l.length ≤ l.length + 1 := by
  unfold lineD
  split
  · simp
  · exact toksR_len n l _ 0 0 [] (by omega) (by simp)
theorem toksR_nil (n : Int) (l : List UInt8) : ∀ (f k last : Nat) (acc : List Tk), (toksR n l f k last acc).e ≠ 0 → (toksR n l f k last acc).l = []
  | 0, k, last, acc, h => by exact absurd rfl h
  | f + 1, k, last, acc, h => by
    by_cases hlt : k < l.length
    · by_cases h35 : at8 l k = 35
      · rw [toksR_remark n l _ k last acc hlt h35] at h; exact absurd rfl h
      · cases hbl : isBlank (at8 l k)
        · by_cases he : (oneD (l.drop k)).e = 0
          · rw [toksR_tok n l f k last acc hlt h35 hbl he] at h ⊢
            exact toksR_nil n l f _ _ _ h
          · rw [toksR_err n l f k last acc hlt h35 hbl he]
        · rw [toksR_blank n l f k last acc hlt h35 hbl] at h ⊢
          exact toksR_nil n l f _ _ _ h
    · rw [toksR_end n l _ k last acc (by omega)] at h; exact absurd rfl h
theorem lineD_nil (n : Int) (l : List UInt8) (h : (lineD n l).e ≠ 0) : (lineD n l).l = [] := by
  unfold lineD at h ⊢
  split
  · rfl
  · rename_i h2
    rw [if_neg h2] at h
    exact toksR_nil n l _ 0 0 [] h
theorem take_drop_snoc (l : List UInt8) (k fr : Nat) (h : k < l.length) (hf : fr ≤ k) : (l.take (k + 1)).drop fr = (l.take k).drop fr ++ [at8 l k] := by
  rw [List.take_succ_eq_append_getElem h, List.drop_append_of_le_length (by rw [List.length_take]; omega), at8_get l k h]
theorem take_drop_self (l : List UInt8) (k : Nat) : (l.take k).drop k = [] := List.drop_eq_nil_of_le (List.length_take_le _ _)
theorem linesA_on (l cur : List UInt8) (k : Nat) (h : k < l.length) (hb : at8 l k ≠ 10) : linesA cur (l.drop k) = linesA (cur ++ [at8 l k]) (l.drop (k + 1)) := by
  rw [List.drop_eq_getElem_cons h, ← at8_get l k h]
  show (if _ then _ else _) = _
  rw [if_neg hb]
theorem linesA_feed (l cur : List UInt8) (k : Nat) (h : k < l.length) (hb : at8 l k = 10) : linesA cur (l.drop k) = cur :: linesA [] (l.drop (k + 1)) := by
  rw [List.drop_eq_getElem_cons h, ← at8_get l k h]
  show (if _ then _ else _) = _
  rw [if_pos hb]
theorem linesA_end (l cur : List UInt8) (k : Nat) (h : l.length ≤ k) : linesA cur (l.drop k) = [cur] := by
  rw [List.drop_eq_nil_of_le h]; rfl
theorem scanR_err (x : List UInt8) (r : List (List UInt8)) (n : Int) (acc : List Tk) (h : (lineD n x).e ≠ 0) : scanR (x :: r) n acc = ⟨[], n, (lineD n x).col, (lineD n x).e⟩ := by
  show (if _ then _ else _) = _
  rw [if_pos h]
theorem scanR_on (x : List UInt8) (r : List (List UInt8)) (n : Int) (acc : List Tk) (h : (lineD n x).e = 0) : scanR (x :: r) n acc = scanR r (n + 1) (acc ++ (lineD n x).l) := by
  show (if _ then _ else _) = _
  rw [if_neg (by rw [h]; simp)]
theorem scanD_short (l : List UInt8) (h : l.length ≤ 65536) : scanD l = scanR (linesA [] l) 1 [] := by unfold scanD; rw [if_neg (by omega)]
/-- A call answers: the slice of tokens, the line and the column, the error. -/
def ScanEnd (T : TypeId) (w : World) (o : Out) : Ending → World → Prop := fun e w' =>
  ∃ v, e = .returned (.tuple #[v, .agg #[.int .i64 o.line, .int .i64 o.col], .int .i64 o.e]) ∧ w'.ownsRow w.heap.size T 5 v o.l.length (cellsT o.l) ∧ Below w.heap.size w w'
theorem scanEnd_nil {T : TypeId} {w w' : World} {L C E : Int} (h : Below w.heap.size w w') : ScanEnd T w ⟨[], L, C, E⟩ (.returned (.tuple #[.slice none 0 0, .agg #[.int .i64 L, .int .i64 C], .int .i64 E])) w' :=
  ⟨_, rfl, World.ownsRow_nil _ _ _ _, h⟩
/-- A row of a call's own, behind a store into another block; another block's cells behind a row's growth. -/
theorem own_other {w : World} {B size n : Nat} {e : TypeId} {v : Value} {xs : List Value} {p : Addr} {u : Value} (h : w.ownsRow B e size v n xs) (hb : p.block < B) : (w.setCell p u).ownsRow B e size v n xs := by
  refine ⟨h.1, ?_⟩
  rcases h.2 with h2 | ⟨g, cap, cur, h1, h2, h3, r⟩
  · exact .inl h2
  · exact .inr ⟨g, cap, cur, h1, h2, (Below.heap_setCell w p u g (by omega)).trans h3, r⟩
theorem grown_cell {w w' : World} {B size n : Nat} {e : TypeId} {v : Value} {xs : List Value} (ho : w.ownsRow B e size v n xs) (hg : w.grownBy w' v.ownBlock) {b o : Nat} {u : Value} (hb : b < B) (h : w.cell? ⟨b, o, none⟩ = some u) : w'.cell? ⟨b, o, none⟩ = some u :=
  hg.cell h (fun e => by have := (ho.lt b e.symm).1; omega)
theorem grown_frozen {w w' : World} {B size n : Nat} {e : TypeId} {v : Value} {xs : List Value} (ho : w.ownsRow B e size v n xs) (hg : w.grownBy w' v.ownBlock) {b o : Nat} (hb : b < B) (hlt : b < w.heap.size) (h : w.frozen? ⟨b, o, none⟩ = false) : w'.frozen? ⟨b, o, none⟩ = false :=
  (World.frozen?_of_block (w := w) (hg.block b hlt (fun e => by have := (ho.lt b e.symm).1; omega))).trans h
end Go.Proofs.YtcilnbkmaoneaaaDoor
