/-
  Layer 5, lists of letters and bytes alone: what is printed is read again; what is written as bytes is read again, and what is read is written so.
-/
import Derived.Test.YtpjpoopgafcedaaDoorMovesWalk
set_option linter.unusedSimpArgs false
set_option linter.unusedVariables false
namespace Go.Proofs.YtpjpoopgafcedaaDoor
open Go.RowKit Go.PlainAid Go.Joins

theorem len_most : ∀ m : Fin 13, (lenR (m.val : Int) = 1 ∧ mostD (m.val : Int) = 0 ∧ m.val ≠ 12) ∨ (lenR (m.val : Int) = 2 ∧ mostD (m.val : Int) = 255 ∧ m.val ≠ 12) ∨ (lenR (m.val : Int) = 2 ∧ mostD (m.val : Int) = 65535 ∧ m.val = 12) ∨ (lenR (m.val : Int) = 3 ∧ mostD (m.val : Int) = 65535 ∧ m.val ≠ 12) := by decide +kernel
/-- What Bytes writes is read again. -/
theorem read_bytes (b : Nat) (hb : b < 256) (n a : Int) (h : bytesE b n a = 0) : readD (bytesL b n a) a = ⟨b, n, ((bytesL b n a).length : Int), 0⟩ := by
  unfold bytesE at h
  unfold bytesL
  cases hp : placeL.getD b none with
  | none => rw [hp] at h; cases h
  | some p =>
    rw [hp] at h
    dsimp only at h ⊢
    have hm : p % 13 < 13 := Nat.mod_lt _ (by omega)
    have hlm := len_most ⟨p % 13, hm⟩
    dsimp only at hlm
    obtain ⟨x1, x2, x3, x4, x5, x6⟩ := bytesk_ok b ((p % 13 : Nat) : Int) n a (by omega) h
    have hr : ¬ (a < 0 ∨ 65535 < a) := by omega
    have hp' : placeL.getD ((b : Int)).toNat none = some p := by simpa using hp
    rcases x6 with ⟨e1, e2, e3, e4⟩ | ⟨e1, e2⟩
    · rw [e2]
      unfold readD
      rw [if_neg hr]
      simp only [hp']
      unfold readM
      rw [e1, len_rel]
      have hrel : relN a ((n - a - 2) % 256) = n := by unfold relN; split <;> omega
      have hg : ([(b : Int), (n - a - 2) % 256] : List Int).getD 1 0 = (n - a - 2) % 256 := rfl
      rw [hg, hrel, if_neg (by simp), if_neg (by rw [e1, len_rel] at x5; omega), if_pos rfl, if_pos (by rw [e1] at x4; have := most_hi 12; omega)]
      rfl
    · rw [e2]
      rcases hlm with ⟨d1, d2, d3⟩ | ⟨d1, d2, d3⟩ | ⟨d1, d2, d3⟩ | ⟨d1, d2, d3⟩
      · rw [if_pos d1]
        unfold readD
        rw [if_neg hr]
        simp only [hp']
        unfold readM
        rw [d1, if_neg (by simp), if_neg (by omega), if_neg e1, if_pos rfl]
        have : n = 0 := by omega
        rw [this]; rfl
      · rw [if_neg (by omega), if_pos d1]
        unfold readD
        rw [if_neg hr]
        simp only [hp']
        unfold readM
        rw [d1, if_neg (by simp), if_neg (by omega), if_neg e1, if_neg (by omega), if_pos rfl]
        have hg : ([(b : Int), n % 256] : List Int).getD 1 0 = n % 256 := rfl
        rw [hg, show n % 256 = n by omega]; rfl
      · exact absurd (by omega) e1
      · rw [if_neg (by omega), if_neg (by omega)]
        unfold readD
        rw [if_neg hr]
        simp only [hp']
        unfold readM
        rw [d1, if_neg (by simp), if_neg (by omega), if_neg e1, if_neg (by omega), if_neg (by omega)]
        have hg : ([(b : Int), n % 256, n / 256] : List Int).getD 1 0 = n % 256 := rfl
        have hg2 : ([(b : Int), n % 256, n / 256] : List Int).getD 2 0 = n / 256 := rfl
        rw [hg, hg2, show n % 256 + 256 * (n / 256) = n by omega]; rfl
/-- What is read has those bytes. -/
theorem bytes_read (l : List Int) (hb : ∀ x ∈ l, 0 ≤ x ∧ x < 256) (a : Int) :
    ((readD l a).e ≠ 0 ∧ (readD l a).o = 0 ∧ (readD l a).n = 0 ∧ (readD l a).k = 0) ∨
    ∃ (b K : Nat), b < 256 ∧ (readD l a).e = 0 ∧ (readD l a).o = (b : Int) ∧ (readD l a).k = (K : Int) ∧ 1 ≤ K ∧ K ≤ l.length ∧ bytesE b (readD l a).n a = 0 ∧ bytesL b (readD l a).n a = l.take K := by
  unfold readD
  by_cases hr : a < 0 ∨ 65535 < a
  · rw [if_pos hr]; exact .inl ⟨by decide, rfl, rfl, rfl⟩
  · rw [if_neg hr]
    match l, hb with
    | [], _ => exact .inl ⟨show (11 : Int) ≠ 0 by decide, rfl, rfl, rfl⟩
    | x :: r, hb =>
      have hx := hb x (by simp)
      obtain ⟨b, rfl⟩ : ∃ b : Nat, x = (b : Int) := ⟨x.toNat, by omega⟩
      have hb8 : b < 256 := by omega
      simp only [Int.toNat_natCast]
      cases hp : placeL.getD b none with
      | none => exact .inl ⟨show (13 : Int) ≠ 0 by decide, rfl, rfl, rfl⟩
      | some p =>
        have hm : p % 13 < 13 := Nat.mod_lt _ (by omega)
        have hlm := len_most ⟨p % 13, hm⟩
        dsimp only at hlm
        have eE : ∀ n, bytesE b n a = bytesEk ((p % 13 : Nat) : Int) n a := fun n => by unfold bytesE; rw [hp]
        have eL : ∀ n, bytesL b n a = bytesLk b ((p % 13 : Nat) : Int) n a := fun n => by unfold bytesL; rw [hp]
        simp only [eE, eL]
        generalize hll : (b : Int) :: r = l at *
        have h0 : l[0]? = some (b : Int) := by rw [← hll]; rfl
        unfold readM
        by_cases g1 : (l.length : Int) < lenR ((p % 13 : Nat) : Int)
        · rw [if_pos g1]; exact .inl ⟨by decide, rfl, rfl, rfl⟩
        rw [if_neg g1]
        by_cases g2 : 65536 < a + lenR ((p % 13 : Nat) : Int)
        · rw [if_pos g2]; exact .inl ⟨by decide, rfl, rfl, rfl⟩
        rw [if_neg g2]
        have hf : ¬ (a < 0 ∨ 65535 < a ∨ 65536 < a + lenR ((p % 13 : Nat) : Int)) := by omega
        rcases hlm with ⟨d1, d2, d3⟩ | ⟨d1, d2, d3⟩ | ⟨d1, d2, d3⟩ | ⟨d1, d2, d3⟩
        · have hk : ¬ ((p % 13 : Nat) : Int) = 12 := by omega
          rw [if_neg hk, if_pos d1]
          have x1 : bytesEk ((p % 13 : Nat) : Int) 0 a = 0 := by unfold bytesEk; rw [if_neg (by rw [d2]; omega), if_neg hf, if_neg (fun h => hk h.1)]
          have x2 : bytesLk b ((p % 13 : Nat) : Int) 0 a = [(b : Int)] := by unfold bytesLk; rw [x1, if_neg (by decide), if_neg hk, if_pos d1]
          exact .inr ⟨b, 1, hb8, rfl, rfl, rfl, by omega, by omega, (eE _).trans x1, (eL _).trans (by rw [x2, ← hll]; rfl)⟩
        · have hk : ¬ ((p % 13 : Nat) : Int) = 12 := by omega
          rw [if_neg hk, if_neg (by omega), if_pos d1]
          have h1 := some_at (l := l) (j := 1) (by omega)
          have hb1 := byte_at hb h1
          generalize l.getD 1 0 = y at *
          have x1 : bytesEk ((p % 13 : Nat) : Int) y a = 0 := by unfold bytesEk; rw [if_neg (by rw [d2]; omega), if_neg hf, if_neg (fun h => hk h.1)]
          have x2 : bytesLk b ((p % 13 : Nat) : Int) y a = [(b : Int), y] := by unfold bytesLk; rw [x1, if_neg (by decide), if_neg hk, if_neg (by omega), if_pos d1, show y % 256 = y by omega]
          exact .inr ⟨b, 2, hb8, rfl, rfl, rfl, by omega, by omega, (eE _).trans x1, (eL _).trans (by
            rw [x2]
            match l, h0, h1 with
            | u :: v :: t, h0, h1 => simp at h0 h1; rw [h0, h1]; rfl)⟩
        · have hk : ((p % 13 : Nat) : Int) = 12 := by omega
          rw [if_pos hk]
          have h1 := some_at (l := l) (j := 1) (by omega)
          have hb1 := byte_at hb h1
          generalize l.getD 1 0 = y at *
          by_cases g3 : 0 ≤ relN a y ∧ relN a y ≤ 65535
          · rw [if_pos g3]
            have hrel : relN a y - a - 2 = if y ≤ 127 then y else y - 256 := by unfold relN; split <;> omega
            have hbd : ¬ (relN a y - a - 2 < -128 ∨ 127 < relN a y - a - 2) := by rw [hrel]; split <;> omega
            have hmd : (relN a y - a - 2) % 256 = y := by rw [hrel]; split <;> omega
            have x1 : bytesEk ((p % 13 : Nat) : Int) (relN a y) a = 0 := by unfold bytesEk; rw [if_neg (by rw [d2]; omega), if_neg hf, if_neg (fun h => hbd h.2)]
            have x2 : bytesLk b ((p % 13 : Nat) : Int) (relN a y) a = [(b : Int), y] := by unfold bytesLk; rw [x1, if_neg (by decide), if_pos hk, hmd]
            exact .inr ⟨b, 2, hb8, rfl, rfl, rfl, by omega, by omega, (eE _).trans x1, (eL _).trans (by
              rw [x2]
              match l, h0, h1 with
              | u :: v :: t, h0, h1 => simp at h0 h1; rw [h0, h1]; rfl)⟩
          · rw [if_neg g3]; exact .inl ⟨by decide, rfl, rfl, rfl⟩
        · have hk : ¬ ((p % 13 : Nat) : Int) = 12 := by omega
          rw [if_neg hk, if_neg (by omega), if_neg (by omega)]
          have h1 := some_at (l := l) (j := 1) (by omega)
          have hb1 := byte_at hb h1
          have h2 := some_at (l := l) (j := 2) (by omega)
          have hb2 := byte_at hb h2
          generalize l.getD 1 0 = y at *
          generalize l.getD 2 0 = z at *
          have x1 : bytesEk ((p % 13 : Nat) : Int) (y + 256 * z) a = 0 := by unfold bytesEk; rw [if_neg (by rw [d2]; omega), if_neg hf, if_neg (fun h => hk h.1)]
          have x2 : bytesLk b ((p % 13 : Nat) : Int) (y + 256 * z) a = [(b : Int), y, z] := by unfold bytesLk; rw [x1, if_neg (by decide), if_neg hk, if_neg (by omega), if_neg (by omega), show (y + 256 * z) % 256 = y by omega, show (y + 256 * z) / 256 = z by omega]
          exact .inr ⟨b, 3, hb8, rfl, rfl, rfl, by omega, by omega, (eE _).trans x1, (eL _).trans (by
            rw [x2]
            match l, h0, h1, h2 with
            | u :: v :: t :: s, h0, h1, h2 => simp at h0 h1 h2; rw [h0, h1, h2]; rfl)⟩
end Go.Proofs.YtpjpoopgafcedaaDoor
