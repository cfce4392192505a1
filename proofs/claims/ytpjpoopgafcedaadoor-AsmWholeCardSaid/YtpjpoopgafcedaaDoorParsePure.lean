/-
  Layer 5, lists of letters alone: what is printed is parsed again.
-/
import Derived.Test.YtpjpoopgafcedaaDoorPrintl
import Derived.Test.YtpjpoopgafcedaaDoorPars
set_option linter.unusedSimpArgs false
set_option linter.unusedVariables false
namespace Go.Proofs.YtpjpoopgafcedaaDoor
open Go.RowKit Go.PlainAid

theorem dig_hex : ∀ d : Fin 16, digH ((hexL d.val).toNat : Int) = (d.val : Int) := by decide +kernel
theorem hex_no : ∀ d : Fin 16, (hexL d.val == 44) = false ∧ (hexL d.val == 41) = false := by decide +kernel
theorem dig_hexm (x : Nat) : digH ((hexL (x % 16)).toNat : Int) = ((x % 16 : Nat) : Int) := dig_hex ⟨x % 16, Nat.mod_lt _ (by omega)⟩
theorem hex44 (x : Nat) : (hexL (x % 16) == 44) = false := (hex_no ⟨x % 16, Nat.mod_lt _ (by omega)⟩).1
theorem hex41 (x : Nat) : (hexL (x % 16) == 41) = false := (hex_no ⟨x % 16, Nat.mod_lt _ (by omega)⟩).2
theorem num_digs (n : Nat) : ∀ (k : Nat) (a : Int), 0 ≤ a → numL (digsL n k) a = a * 16 ^ k + ((n % 16 ^ k : Nat) : Int)
  | 0, a, _ => by simp [digsL, numL, Nat.mod_one]
  | k + 1, a, h => by
    show numL (hexL (n / 16 ^ k % 16) :: digsL n k) a = _
    unfold numL
    rw [dig_hexm, if_neg (by omega), num_digs n k _ (by omega)]
    have h1 : n % 16 ^ (k + 1) = 16 ^ k * (n / 16 ^ k % 16) + n % 16 ^ k := by rw [Nat.pow_succ, Nat.mod_mul, Nat.add_comm]
    rw [h1, Int.pow_succ]
    push_cast
    generalize (n : Int) / 16 ^ k % 16 = q
    generalize (n : Int) % 16 ^ k = r
    generalize (16 : Int) ^ k = P
    grind
/-- What a mode writes, another one ahead of it doesn't; but for the two that are written alike. -/
theorem writ_other (n m m' : Nat) (hm : m < 13) (h : m' < m) (hne : ¬ (m = 12 ∧ m' = 6)) : writtenD (tailD (m : Int) n) (m' : Int) = -1 := by
  have a1 := hex44 (n / 16 ^ 1)
  have a0 := hex44 (n / 16 ^ 0)
  have b1 := hex41 (n / 16 ^ 1)
  have h1 : m = 0 ∨ m = 1 ∨ m = 2 ∨ m = 3 ∨ m = 4 ∨ m = 5 ∨ m = 6 ∨ m = 7 ∨ m = 8 ∨ m = 9 ∨ m = 10 ∨ m = 11 ∨ m = 12 := by omega
  have h2 : m' = 0 ∨ m' = 1 ∨ m' = 2 ∨ m' = 3 ∨ m' = 4 ∨ m' = 5 ∨ m' = 6 ∨ m' = 7 ∨ m' = 8 ∨ m' = 9 ∨ m' = 10 ∨ m' = 11 := by omega
  rcases h1 with rfl | rfl | rfl | rfl | rfl | rfl | rfl | rfl | rfl | rfl | rfl | rfl | rfl <;> rcases h2 with rfl | rfl | rfl | rfl | rfl | rfl | rfl | rfl | rfl | rfl | rfl | rfl <;> first | (exfalso; omega) | rfl | skip
  · unfold writtenD
    rw [if_neg (by decide), if_neg (by decide), if_neg]
    intro h
    simp only [Bool.and_eq_true] at h
    have h3 : (hexL (n / 16 ^ 1 % 16) == 44 && (hexL (n / 16 ^ 0 % 16) == 88 && true)) = true := h.2.2
    rw [a1] at h3
    cases h3
  · unfold writtenD
    rw [if_neg (by decide), if_neg (by decide), if_neg]
    intro h
    simp only [Bool.and_eq_true] at h
    have h3 : (hexL (n / 16 ^ 1 % 16) == 44 && (hexL (n / 16 ^ 0 % 16) == 89 && true)) = true := h.2.2
    rw [a1] at h3
    cases h3
  · unfold writtenD
    rw [if_neg (by decide), if_neg (by decide), if_neg]
    intro h
    simp only [Bool.and_eq_true] at h
    have h3 : (hexL (n / 16 ^ 1 % 16) == 44 && (hexL (n / 16 ^ 0 % 16) == 88 && ((41 : UInt8) == 41 && true))) = true := h.2.2
    rw [a1] at h3
    cases h3
  · unfold writtenD
    rw [if_neg (by decide), if_neg (by decide), if_neg]
    intro h
    simp only [Bool.and_eq_true] at h
    have h3 : (hexL (n / 16 ^ 1 % 16) == 41 && (hexL (n / 16 ^ 0 % 16) == 44 && ((41 : UInt8) == 89 && true))) = true := h.2.2
    rw [b1] at h3
    cases h3
  · unfold writtenD
    rw [if_neg (by decide), if_neg (by decide), if_neg]
    intro h
    simp only [Bool.and_eq_true] at h
    have h3 : (hexL (n / 16 ^ 1 % 16) == 44 && (hexL (n / 16 ^ 0 % 16) == 88 && true)) = true := h.2.2
    rw [a1] at h3
    cases h3
  · unfold writtenD
    rw [if_neg (by decide), if_neg (by decide), if_neg]
    intro h
    simp only [Bool.and_eq_true] at h
    have h3 : (hexL (n / 16 ^ 1 % 16) == 44 && (hexL (n / 16 ^ 0 % 16) == 89 && true)) = true := h.2.2
    rw [a1] at h3
    cases h3
/-- What a mode writes is the number. -/
theorem writ_self (n m : Nat) (hm : m < 13) (hn : (n : Int) ≤ mostD (m : Int)) : writtenD (tailD (m : Int) n) (m : Int) = n := by
  have n2 := num_digs n 2 0 (by omega)
  have n4 := num_digs n 4 0 (by omega)
  have h1 : m = 0 ∨ m = 1 ∨ m = 2 ∨ m = 3 ∨ m = 4 ∨ m = 5 ∨ m = 6 ∨ m = 7 ∨ m = 8 ∨ m = 9 ∨ m = 10 ∨ m = 11 ∨ m = 12 := by omega
  rcases h1 with rfl | rfl | rfl | rfl | rfl | rfl | rfl | rfl | rfl | rfl | rfl | rfl | rfl
  · have : mostD ((0 : Nat) : Int) = 0 := by decide
    rw [this] at hn
    have : n = 0 := by omega
    subst this; rfl
  · have : mostD ((1 : Nat) : Int) = 0 := by decide
    rw [this] at hn
    have : n = 0 := by omega
    subst this; rfl
  all_goals first
    | (have hmd : mostD ((2 : Nat) : Int) = 255 := by decide
       have hle : (n : Int) ≤ 255 := hn
       refine Eq.trans (b := numL (digsL n 2) 0) rfl (n2.trans ?_)
       omega)
    | (have hle : (n : Int) ≤ 65535 := hn
       refine Eq.trans (b := numL (digsL n 4) 0) rfl (n4.trans ?_)
       omega)
theorem abs_rel : ∀ r : Fin 56, (decide (0 ≤ atL.getD (13 * r.val + 12) 0) && decide (0 ≤ atL.getD (13 * r.val + 6) 0)) = false := by decide +kernel
theorem name_rows : ∀ r : Fin 56, rowL3 (nameL.getD r.val []) = (r.val : Int) := by decide +kernel
theorem place_at : ∀ b : Fin 256, (match placeL.getD b.val none with | some p => decide (atL.getD p 0 = (b.val : Int)) && greatL (nameL.getD (p / 13) []) | none => true) = true := by decide +kernel
theorem greatL_app (a r : List UInt8) (h : a.length = 3) : greatL (a ++ r) = greatL a := by
  match a, h with
  | [x, y, z], _ => rfl
/-- Parse of Print is the line. -/
theorem parse_print (b : Nat) (hb : b < 256) (n : Int) (h : wrongD b n = 0) : parseO (printL b n) = b ∧ parseN (printL b n) = n ∧ parseE (printL b n) = 0 := by
  obtain ⟨p, hp, h0, h1⟩ := wrong_zero b n h
  obtain ⟨k, rfl⟩ : ∃ k : Nat, n = k := ⟨n.toNat, by omega⟩
  have hlt := place_bound b hb p hp
  have hpl := place_at ⟨b, hb⟩
  simp only [hp, Bool.and_eq_true, decide_eq_true_eq] at hpl
  obtain ⟨hat, hgr⟩ := hpl
  have hm : p % 13 < 13 := Nat.mod_lt _ (by omega)
  have hr : p / 13 < 56 := by omega
  have h3 := name_len ⟨p / 13, hr⟩
  have hrow := name_rows ⟨p / 13, hr⟩
  dsimp only at h3 hrow
  have e : printL b k = nameL.getD (p / 13) [] ++ tailD ((p % 13 : Nat) : Int) k := by
    unfold printL textD
    rw [if_pos h, hp]
    simp only [Int.toNat_natCast]
  rw [e]
  generalize hN : nameL.getD (p / 13) [] = N at *
  have htk : (N ++ tailD ((p % 13 : Nat) : Int) k).take 3 = N := by rw [← h3, List.take_left]
  have hdr : (N ++ tailD ((p % 13 : Nat) : Int) k).drop 3 = tailD ((p % 13 : Nat) : Int) k := by rw [← h3, List.drop_left]
  have hi : isText (N ++ tailD ((p % 13 : Nat) : Int) k) = true := by
    unfold isText
    rw [greatL_app _ _ h3, hgr, decide_eq_false (by rw [List.length_append]; omega)]; rfl
  have hself := writ_self k (p % 13) hm h1
  have hdiv : 13 * (p / 13) + p % 13 = p := Nat.div_add_mod p 13
  have hs := scan_some (wn := fun m => writtenD (tailD ((p % 13 : Nat) : Int) k) (m : Int)) (at' := atRL ((p / 13 : Nat) : Int)) (r := ((p / 13 : Nat) : Int)) (k := p % 13) hm (by
    unfold hitM
    simp only [hself]
    have : atRL ((p / 13 : Nat) : Int) (p % 13) = (b : Int) := by unfold atRL; rw [Int.toNat_natCast, hdiv]; exact hat
    rw [this, decide_eq_true (show (0 : Int) ≤ (k : Int) by omega), decide_eq_true (show (0 : Int) ≤ ((p / 13 : Nat) : Int) by omega), decide_eq_true (show (0 : Int) ≤ (b : Int) by omega)]
    rfl) (fun j hj => by
    unfold hitM
    by_cases hne : p % 13 = 12 ∧ j = 6
    · obtain ⟨e12, rfl⟩ := hne
      have hx := abs_rel ⟨p / 13, hr⟩
      dsimp only at hx
      rw [show 13 * (p / 13) + 12 = p by omega, hat, decide_eq_true (by omega), Bool.true_and] at hx
      have : decide (0 ≤ atRL ((p / 13 : Nat) : Int) 6) = false := by unfold atRL; rw [Int.toNat_natCast]; exact hx
      rw [this]
      simp
    · have := writ_other k (p % 13) j hm hj hne
      simp only [this]
      rfl)
  unfold parseO parseN parseE
  rw [hi, htk, hdr, hrow]
  simp only [if_true]
  refine ⟨hs.1.trans ?_, hs.2.1.trans hself, hs.2.2⟩
  unfold atRL
  rw [Int.toNat_natCast, hdiv]
  exact hat
end Go.Proofs.YtpjpoopgafcedaaDoor
