/-
  Layer 6's document: the token that begins at a byte.
-/
import Derived.Test.YtjcmblbnbpikfaaDoorRef1
set_option linter.unusedSimpArgs false
set_option linter.unusedVariables false
namespace Go.Proofs.YtjcmblbnbpikfaaDoor
open Go.RowKit Go.PlainAid

/-- What One hands back where the token's rest begins at a place. -/
def oneV (o : OneT) (at' : Nat) : Value := .tuple #[.agg #[.int .i64 o.k, .string (txB o.t), .int .i64 o.n, .int .i64 0, .int .i64 0], .int .i64 (if o.e = 0 then (at' : Int) + o.len else 0), .int .i64 o.e]
theorem runL_drop (p : UInt8 → Bool) (l : List UInt8) (j k : Nat) : j + runL p (l.drop j) k = runL p l (j + k) := by
  unfold runL
  rw [List.drop_drop]
  omega
theorem glueAt_drop (l : List UInt8) (j k : Nat) : glueAt (l.drop j) k = glueAt l (j + k) := by
  unfold glueAt
  rw [List.getElem?_drop]
theorem drop_get0 (l : List UInt8) (k : Nat) (h : k < l.length) : (l.drop k)[0]? = some (at8 l k) := by
  rw [List.getElem?_drop, Nat.add_zero, at8_some l k h]
theorem oneD_word (l : List UInt8) (k : Nat) (h : k < l.length) (hc : isLet (at8 l k) = true) : oneD (l.drop k) = oneWord (l.drop k) := by
  unfold oneD; rw [drop_get0 l k h]; dsimp only; rw [if_pos hc]
theorem oneD_dot (l : List UInt8) (k : Nat) (h : k < l.length) (hc : isLet (at8 l k) = false) (hd : at8 l k = 46) : oneD (l.drop k) = (if (l.drop k)[1]? = some 46 then ⟨3, [], 0, 2, 0⟩ else oneNo 11) := by
  unfold oneD; rw [drop_get0 l k h]; dsimp only; rw [if_neg (by rw [hc]; simp), if_pos hd]
theorem oneD_hex (l : List UInt8) (k : Nat) (h : k < l.length) (hc : isLet (at8 l k) = false) (hd : at8 l k = 36) : oneD (l.drop k) = oneNum 16 (l.drop k) 1 := by
  unfold oneD; rw [drop_get0 l k h]; dsimp only; rw [if_neg (by rw [hc]; simp), if_neg (by rw [hd]; decide), if_pos hd]
theorem oneD_dec (l : List UInt8) (k : Nat) (h : k < l.length) (hc : isLet (at8 l k) = false) (hd : isDig 10 (at8 l k) = true) (h46 : at8 l k ≠ 46) (h36 : at8 l k ≠ 36) : oneD (l.drop k) = oneNum 10 (l.drop k) 0 := by
  unfold oneD; rw [drop_get0 l k h]; dsimp only; rw [if_neg (by rw [hc]; simp), if_neg h46, if_neg h36, if_pos hd]
theorem oneD_no (l : List UInt8) (k : Nat) (h : k < l.length) (hc : isLet (at8 l k) = false) (hd : isDig 10 (at8 l k) = false) (h46 : at8 l k ≠ 46) (h36 : at8 l k ≠ 36) : oneD (l.drop k) = oneNo 22 := by
  unfold oneD; rw [drop_get0 l k h]; dsimp only; rw [if_neg (by rw [hc]; simp), if_neg h46, if_neg h36, if_neg (by rw [hd]; simp)]
/-- The number that begins j bytes behind the place k. -/
theorem oneNum_at (base : Nat) (l : List UInt8) (k j : Nat) : oneNum base (l.drop k) j = (if runL (isDig base) l (k + j) = k + j ∨ glueAt l (runL (isDig base) l (k + j)) = true then oneNo 11 else if 65535 < numV base (l.drop (k + j)) 0 then oneNo 10 else ⟨2, [], numV base (l.drop (k + j)) 0, runL (isDig base) l (k + j) - k, 0⟩) := by
  unfold oneNum
  have h1 := runL_drop (isDig base) l k j
  have h2 : runL (isDig base) (l.drop k) j = runL (isDig base) l (k + j) - k := by omega
  dsimp only
  rw [h2, glueAt_drop, List.drop_drop]
  have h3 := runL_ge (isDig base) l (k + j)
  rw [show k + (runL (isDig base) l (k + j) - k) = runL (isDig base) l (k + j) from by omega]
  congr 1
  rw [eq_iff_iff]
  constructor
  · rintro (h | h)
    · exact .inl (by omega)
    · exact .inr h
  · rintro (h | h)
    · exact .inl (by omega)
    · exact .inr h
theorem oneWord_at (l : List UInt8) (k : Nat) : oneWord (l.drop k) = (if glueAt l (runL isLet l k) = true then oneNo 11 else ⟨1, (l.take (runL isLet l k)).drop k, 0, runL isLet l k - k, 0⟩) := by
  unfold oneWord
  have h1 := runL_drop isLet l k 0
  rw [Nat.add_zero] at h1
  have h2 : runL isLet (l.drop k) 0 = runL isLet l k - k := by omega
  have h3 := runL_ge isLet l k
  dsimp only
  rw [h2, glueAt_drop, show k + (runL isLet l k - k) = runL isLet l k from by omega, List.drop_take]
theorem bI_lit (b c : UInt8) (h : b = c) (n : Int) (hn : bI c = n) : bI b = n := by rw [h]; exact hn
/-- The four ways that a number ends. -/
theorem oneNum_ways (base : Nat) (l : List UInt8) (k j : Nat) (hk : k + j ≤ l.length) : ∃ (N : Int) (R : Nat) (q g : Bool), numV base (l.drop (k + j)) 0 = N ∧ runL (isDig base) l (k + j) = R ∧ R ≤ l.length ∧ k + j ≤ R ∧ (((R : Int) == ((k + j : Nat) : Int)) = q) ∧ glueAt l R = g ∧
    ((q = true ∧ oneV (oneNum base (l.drop k) j) k = .tuple #[.agg #[.int .i64 0, .string ⟨#[]⟩, .int .i64 0, .int .i64 0, .int .i64 0], .int .i64 0, .int .i64 11]) ∨
     (q = false ∧ g = true ∧ oneV (oneNum base (l.drop k) j) k = .tuple #[.agg #[.int .i64 0, .string ⟨#[]⟩, .int .i64 0, .int .i64 0, .int .i64 0], .int .i64 0, .int .i64 11]) ∨
     (q = false ∧ g = false ∧ decide (65535 < N) = true ∧ oneV (oneNum base (l.drop k) j) k = .tuple #[.agg #[.int .i64 0, .string ⟨#[]⟩, .int .i64 0, .int .i64 0, .int .i64 0], .int .i64 0, .int .i64 10]) ∨
     (q = false ∧ g = false ∧ decide (65535 < N) = false ∧ oneV (oneNum base (l.drop k) j) k = .tuple #[.agg #[.int .i64 2, .string ⟨#[]⟩, .int .i64 N, .int .i64 0, .int .i64 0], .int .i64 (R : Int), .int .i64 0])) := by
  refine ⟨_, _, _, _, rfl, rfl, runL_le _ _ _ hk, runL_ge _ _ _, rfl, rfl, ?_⟩
  rw [oneNum_at]
  have hg := runL_ge (isDig base) l (k + j)
  generalize runL (isDig base) l (k + j) = R at *
  generalize numV base (l.drop (k + j)) 0 = N at *
  by_cases h1 : R = k + j
  · left
    refine ⟨by rw [h1]; simp, ?_⟩
    rw [if_pos (.inl h1)]; rfl
  · have q0 : (((R : Nat) : Int) == ((k + j : Nat) : Int)) = false := beq_eq_false_iff_ne.2 (by omega)
    right
    cases hgl : glueAt l R
    · right
      rw [if_neg (by rintro (h | h); exact h1 h; cases h)]
      by_cases h2 : 65535 < N
      · left
        rw [if_pos h2]
        exact ⟨q0, rfl, decide_eq_true h2, rfl⟩
      · right
        rw [if_neg h2]
        refine ⟨q0, rfl, decide_eq_false h2, ?_⟩
        unfold oneV
        dsimp only
        rw [if_pos rfl, show (k : Int) + ((R - k : Nat) : Int) = (R : Int) from by omega]
    · left
      rw [if_pos (.inr rfl)]
      exact ⟨q0, rfl, rfl⟩
end Go.Proofs.YtjcmblbnbpikfaaDoor
