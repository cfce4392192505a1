/-
  Layer 5's document: a line's bytes at an address, whatever the line and the address.
-/
import Derived.Test.YtpjpoopgafcedaaGreatDoorByts
import Derived.Test.YtpjpoopgafcedaaGreatDoorLenR
set_option linter.unusedSimpArgs false
set_option linter.unusedVariables false
namespace Go.Proofs.YtpjpoopgafcedaaGreatDoor
open Go.RowKit Go.PlainAid

/-- What is wrong with a line at an address, of a mode; its bytes. -/
def bytesEk (k n a : Int) : Int :=
  if n < 0 ∨ mostD k < n then 10 else if a < 0 ∨ 65535 < a ∨ 65536 < a + lenR k then 10 else if k = 12 ∧ (n - a - 2 < -128 ∨ 127 < n - a - 2) then 10 else 0
def bytesLk (b : Nat) (k n a : Int) : List Int :=
  if bytesEk k n a ≠ 0 then [] else if k = 12 then [(b : Int), (n - a - 2) % 256] else if lenR k = 1 then [(b : Int)] else if lenR k = 2 then [(b : Int), n % 256] else [(b : Int), n % 256, n / 256]
def bytesE (b : Nat) (n a : Int) : Int := match placeL.getD b none with | some p => bytesEk ((p % 13 : Nat) : Int) n a | none => 13
def bytesL (b : Nat) (n a : Int) : List Int := match placeL.getD b none with | some p => bytesLk b ((p % 13 : Nat) : Int) n a | none => []
theorem below_of_eq' {w w' : World} (h : w = w') : Below w.heap.size w w' := by subst h; exact Below.refl _ _
theorem most_hi (k : Int) : mostD k ≤ 65535 := by unfold mostD; split; omega; split <;> omega
theorem bytes_c (b : Nat) (hb : b < 256) (n a : Int) (w : World) :
    Calls Tryz.prog 14 #[.agg #[.int .i64 b, .int .i64 n], .int .i64 a] w (BytesEnd w (bytesL b n a) (bytesE b n a)) := by
  have hW := fun w => wrong_c b hb n w
  unfold wrongD at hW
  unfold bytesL bytesE
  cases hp : placeL.getD b none with
  | none =>
    rw [hp] at hW
    exact bytes_wrong b n a 13 (by decide) hW w
  | some p =>
    rw [hp] at hW
    have hF := fun w => find_some b hb p hp w
    simp only [] at hW ⊢
    have hk0 : (0 : Int) ≤ ((p % 13 : Nat) : Int) := by omega
    have hk1 : ((p % 13 : Nat) : Int) ≤ 12 := by omega
    generalize ((p % 13 : Nat) : Int) = k at *
    have hL : ∀ w, Calls Tryz.prog 26 #[.int .i64 k] w fun e w' => e = .returned (.int .i64 (lenR k)) ∧ Below w.heap.size w w' := fun w => (lenr_c k hk0 hk1 w).mono fun e w' ⟨h1, h2⟩ => ⟨h1, below_of_eq' h2⟩
    have hl := lenR_ways k
    have hm := most_hi k
    by_cases h1 : n < 0 ∨ mostD k < n
    · have e : bytesEk k n a = 10 := by unfold bytesEk; rw [if_pos h1]
      have e2 : bytesLk b k n a = [] := by unfold bytesLk; rw [e]; rfl
      rw [if_pos h1] at hW
      rw [e, e2]
      exact bytes_wrong b n a 10 (by decide) hW w
    · rw [if_neg h1] at hW
      by_cases h2 : a < 0 ∨ 65535 < a ∨ 65536 < a + lenR k
      · have e : bytesEk k n a = 10 := by unfold bytesEk; rw [if_neg h1, if_pos h2]
        have e2 : bytesLk b k n a = [] := by unfold bytesLk; rw [e]; rfl
        rw [e, e2]
        exact bytes_range b n a k (lenR k) _ hW hF hL (by omega) h2 w
      · by_cases hk : k = 12
        · subst hk
          have h12 : lenR 12 = 2 := by decide
          rw [h12] at hL h2
          by_cases h3 : n - a - 2 < -128 ∨ 127 < n - a - 2
          · have e : bytesEk 12 n a = 10 := by unfold bytesEk; rw [if_neg h1, h12, if_neg h2, if_pos ⟨rfl, h3⟩]
            have e2 : bytesLk b 12 n a = [] := by unfold bytesLk; rw [e]; rfl
            rw [e, e2]
            exact bytes_far b n a _ hW hF hL hb (by omega) (by omega) (by omega) (by omega) h3 w
          · have e : bytesEk 12 n a = 0 := by unfold bytesEk; rw [if_neg h1, h12, if_neg h2, if_neg (fun h => h3 h.2)]
            have e2 : bytesLk b 12 n a = [(b : Int), (n - a - 2) % 256] := by unfold bytesLk; rw [e, if_neg (by simp), if_pos rfl]
            rw [e, e2]
            exact bytes_rel b n a _ hW hF hL hb (by omega) (by omega) (by omega) (by omega) (fun h => h3 (.inl h)) (fun h => h3 (.inr h)) w
        · have hk12 : (k == 12) = false := by rw [beq_eq_false_iff_ne]; exact hk
          have e : bytesEk k n a = 0 := by unfold bytesEk; rw [if_neg h1, if_neg h2, if_neg (fun h => hk h.1)]
          rcases hl with hl | hl | hl
          · have e2 : bytesLk b k n a = [(b : Int)] := by unfold bytesLk; rw [e, if_neg (by simp), if_neg hk, if_pos hl]
            rw [hl] at hL h2
            rw [e, e2]
            exact bytes_one b n a k _ hk12 hW hF hL hb (by omega) (by omega) w
          · have e2 : bytesLk b k n a = [(b : Int), n % 256] := by unfold bytesLk; rw [e, if_neg (by simp), if_neg hk, if_neg (by omega), if_pos hl]
            rw [hl] at hL h2
            rw [e, e2]
            exact bytes_two b n a k _ hk12 hW hF hL hb (by omega) (by omega) (by omega) (by omega) w
          · have e2 : bytesLk b k n a = [(b : Int), n % 256, n / 256] := by unfold bytesLk; rw [e, if_neg (by simp), if_neg hk, if_neg (by omega), if_neg (by omega)]
            rw [hl] at hL h2
            rw [e, e2]
            exact bytes_three b n a k _ hk12 hW hF hL hb (by omega) (by omega) (by omega) (by omega) w
end Go.Proofs.YtpjpoopgafcedaaGreatDoor
