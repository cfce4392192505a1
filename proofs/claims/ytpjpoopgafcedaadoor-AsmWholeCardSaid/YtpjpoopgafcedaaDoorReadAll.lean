/-
  Layer 5's document: the line that bytes begin with, whatever the bytes and the address.
-/
import Derived.Test.YtpjpoopgafcedaaDoorRead
set_option linter.unusedSimpArgs false
set_option linter.unusedVariables false
namespace Go.Proofs.YtpjpoopgafcedaaDoor
open Go.RowKit Go.PlainAid Go.Joins

/-- A line's number, how many bytes it took, and the error; its opcode is the first byte where there is no error. -/
structure ReadA where
  o : Int
  n : Int
  k : Int
  e : Int
def relN (a n : Int) : Int := if n ≤ 127 then a + 2 + n else a + 2 + (n - 256)
def readM (l : List Int) (b k a : Int) : ReadA :=
  if (l.length : Int) < lenR k then ⟨0, 0, 0, 11⟩ else if 65536 < a + lenR k then ⟨0, 0, 0, 10⟩
  else if k = 12 then (if 0 ≤ relN a (l.getD 1 0) ∧ relN a (l.getD 1 0) ≤ 65535 then ⟨b, relN a (l.getD 1 0), 2, 0⟩ else ⟨0, 0, 0, 10⟩)
  else if lenR k = 1 then ⟨b, 0, 1, 0⟩ else if lenR k = 2 then ⟨b, l.getD 1 0, 2, 0⟩ else ⟨b, l.getD 1 0 + 256 * l.getD 2 0, 3, 0⟩
def readD (l : List Int) (a : Int) : ReadA :=
  if a < 0 ∨ 65535 < a then ⟨0, 0, 0, 10⟩ else match l with
  | [] => ⟨0, 0, 0, 11⟩
  | b :: _ => match placeL.getD b.toNat none with | none => ⟨0, 0, 0, 13⟩ | some p => readM l b ((p % 13 : Nat) : Int) a
theorem some_at {l : List Int} {j : Nat} (h : j < l.length) : l[j]? = some (l.getD j 0) := by
  rw [List.getD_eq_getElem?_getD, List.getElem?_eq_getElem h]; rfl
theorem byte_at {l : List Int} (hb : ∀ x ∈ l, 0 ≤ x ∧ x < 256) {j : Nat} {x : Int} (h : l[j]? = some x) : 0 ≤ x ∧ x < 256 := hb x (List.mem_of_getElem? h)
theorem read_c (l : List Int) (hb : ∀ x ∈ l, 0 ≤ x ∧ x < 256) (v : Value) (a : Int) (w : World) (hv : Holds w v l) :
    Calls Tryd.prog 19 #[v, .int .i64 a] w (ReadEnd w (readD l a).o (readD l a).n (readD l a).k (readD l a).e) := by
  unfold readD
  by_cases h : a < 0 ∨ 65535 < a
  · rw [if_pos h]; exact read_range v a h w
  · rw [if_neg h]
    have h1 : 0 ≤ a := by omega
    have h2 : a ≤ 65535 := by omega
    cases l with
    | nil =>
      obtain ⟨p, c, rfl, H⟩ := hv.form
      exact read_empty p 0 c (by decide) a h1 h2 w
    | cons x r =>
      have hx := hb x (by simp)
      obtain ⟨b, rfl⟩ : ∃ b : Nat, x = (b : Int) := ⟨x.toNat, by omega⟩
      have hb8 : b < 256 := by omega
      have hl : ((b : Int) :: r)[0]? = some (b : Int) := rfl
      simp only [Int.toNat_natCast]
      cases hp : placeL.getD b none with
      | none => exact read_opcode _ b hl hb8 v a h1 h2 (fun w => find_none b hb8 hp w) w hv
      | some p =>
        have hF := fun w => find_some b hb8 p hp w
        simp only []
        have hk0 : (0 : Int) ≤ ((p % 13 : Nat) : Int) := by omega
        have hk1 : ((p % 13 : Nat) : Int) ≤ 12 := by omega
        have hr : (0 : Int) ≤ ((p / 13 : Nat) : Int) := by omega
        generalize ((p % 13 : Nat) : Int) = k at *
        have hL : ∀ w, Calls Tryd.prog 40 #[.int .i64 k] w fun e w' => e = .returned (.int .i64 (lenR k)) ∧ Below w.heap.size w w' := fun w => (lenr_c k hk0 hk1 w).mono fun e w' ⟨h1, h2⟩ => ⟨h1, by subst h2; exact Below.refl _ _⟩
        have hw := lenR_ways k
        unfold readM
        generalize hll : (b : Int) :: r = l at *
        by_cases g1 : (l.length : Int) < lenR k
        · rw [if_pos g1]; exact read_short l b hl hb8 v a _ k (lenR k) hr h1 h2 hF hL g1 w hv
        · rw [if_neg g1]
          by_cases hk : k = 12
          · have h12 : lenR k = 2 := by rw [hk]; decide
            rw [h12] at hL g1 ⊢
            have hn1 := some_at (l := l) (j := 1) (by omega)
            have hb1 := byte_at hb hn1
            generalize l.getD 1 0 = n1 at *
            rw [if_pos hk]
            by_cases g2 : 65536 < a + 2
            · rw [if_pos g2]
              by_cases g3 : n1 ≤ 127
              · exact read_rel_low_far l b hl hb8 n1 hn1 hb1 v a _ k hr h1 h2 hF hL hk g2 g3 w hv
              · exact read_rel_high_far l b hl hb8 n1 hn1 hb1 v a _ k hr h1 h2 hF hL hk g2 (by omega) w hv
            · rw [if_neg g2]
              by_cases g3 : n1 ≤ 127
              · have e : relN a n1 = a + 2 + n1 := by unfold relN; rw [if_pos g3]
                rw [e]
                by_cases g4 : 0 ≤ a + 2 + n1 ∧ a + 2 + n1 ≤ 65535
                · rw [if_pos g4]; exact read_rel_low l b hl hb8 n1 hn1 hb1 v a _ k hr h1 h2 hF hL hk ⟨by omega, g4⟩ g3 w hv
                · rw [if_neg g4]; exact read_rel_low_over l b hl hb8 n1 hn1 hb1 v a _ k hr h1 h2 hF hL hk ⟨by omega, by omega⟩ g3 w hv
              · have e : relN a n1 = a + 2 + (n1 - 256) := by unfold relN; rw [if_neg g3]
                rw [e]
                by_cases g4 : 0 ≤ a + 2 + (n1 - 256) ∧ a + 2 + (n1 - 256) ≤ 65535
                · rw [if_pos g4]; exact read_rel_high l b hl hb8 n1 hn1 hb1 v a _ k hr h1 h2 hF hL hk ⟨by omega, g4⟩ (by omega) w hv
                · rw [if_neg g4]; exact read_rel_high_under l b hl hb8 n1 hn1 hb1 v a _ k hr h1 h2 hF hL hk ⟨by omega, by omega⟩ (by omega) w hv
          · have hk12 : (k == 12) = false := by rw [beq_eq_false_iff_ne]; exact hk
            rcases hw with hw | hw | hw
            · rw [hw] at hL g1 ⊢
              rw [if_neg (by omega), if_neg hk, if_pos rfl]
              exact read_one l b hl hb8 v a _ k hr h1 h2 hF hL hk12 (by omega) w hv
            · rw [hw] at hL g1 ⊢
              have hn1 := some_at (l := l) (j := 1) (by omega)
              have hb1 := byte_at hb hn1
              by_cases g2 : 65536 < a + 2
              · rw [if_pos g2]; exact read_two_out l b hl hb8 _ hn1 hb1 v a _ k hr h1 h2 hF hL hk12 g2 w hv
              · rw [if_neg g2, if_neg hk, if_neg (by decide), if_pos rfl]
                exact read_two l b hl hb8 _ hn1 hb1 v a _ k hr h1 h2 hF hL hk12 (by omega) w hv
            · rw [hw] at hL g1 ⊢
              have hn1 := some_at (l := l) (j := 1) (by omega)
              have hb1 := byte_at hb hn1
              have hn2 := some_at (l := l) (j := 2) (by omega)
              have hb2 := byte_at hb hn2
              by_cases g2 : 65536 < a + 3
              · rw [if_pos g2]; exact read_three_out l b hl hb8 _ hn1 hb1 _ hn2 hb2 v a _ k hr h1 h2 hF hL hk12 g2 w hv
              · rw [if_neg g2, if_neg hk, if_neg (by decide), if_neg (by decide)]
                exact read_three l b hl hb8 _ hn1 hb1 _ hn2 hb2 v a _ k hr h1 h2 hF hL hk12 (by omega) w hv
end Go.Proofs.YtpjpoopgafcedaaDoor
