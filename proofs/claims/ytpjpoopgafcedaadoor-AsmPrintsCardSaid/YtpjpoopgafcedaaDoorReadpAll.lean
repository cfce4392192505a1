/-
  Layer 5, the program: Read, one contract.
-/
import Derived.Test.YtpjpoopgafcedaaDoorReadp
set_option linter.unusedSimpArgs false
set_option linter.unusedVariables false
namespace Go.Proofs.YtpjpoopgafcedaaDoor
open Go.RowKit Go.PlainAid Go.Joins

theorem i8_byte (x : Int) (h0 : 0 ≤ x) (h1 : x < 256) : IntKind.i8.wrap x = if x ≤ 127 then x else x - 256 := by
  have h : IntKind.i8.wrap x = if x % 256 ≥ 128 then x % 256 - 256 else x % 256 := by simp [IntKind.wrap, IntKind.bits, IntKind.signed]
  rw [h]
  split <;> split <;> omega
theorem len_dg : ∀ m : Fin 13, (lenR (m.val : Int) = 1 ∧ dgP m.val = 0 ∧ m.val ≠ 12) ∨ (lenR (m.val : Int) = 2 ∧ dgP m.val = 2 ∧ m.val ≠ 12) ∨ (lenR (m.val : Int) = 2 ∧ dgP m.val = 4 ∧ m.val = 12) ∨ (lenR (m.val : Int) = 3 ∧ dgP m.val = 4 ∧ m.val ≠ 12) := by decide +kernel
theorem rest_one (l : List Int) (h : 2 ≤ l.length) : valL ((l.drop 1).take 1) = l.getD 1 0 := by
  match l, h with
  | x :: y :: r, _ => rfl
theorem rest_two (l : List Int) (h : 3 ≤ l.length) : valL ((l.drop 1).take 2) = l.getD 1 0 + 256 * l.getD 2 0 := by
  match l, h with
  | x :: y :: z :: r, _ => rfl
theorem readp_c (l : List Int) (hb : ∀ x ∈ l, 0 ≤ x ∧ x < 256) (v : Value) (a : Int) (w : World) (hv : HoldsC w v l) (hld : Laid w) :
    Calls Tryd.prog 18 #[v, .int .i64 a] w (ReadEndP w (readD l a).o (readD l a).n (readD l a).k (readD l a).e) := by
  unfold readD
  by_cases h : a < 0 ∨ 65535 < a
  · rw [if_pos h]; exact readp_range v a (by unfold fitsD; simp; omega) w
  · rw [if_neg h]
    have hf : fitsD a 1 = true := by unfold fitsD; simp; omega
    cases l with
    | nil =>
      obtain ⟨p, c, rfl, H⟩ := hv.1.form
      exact readp_empty p 0 c (by decide) a hf w
    | cons x r =>
      have hx := hb x (by simp)
      obtain ⟨b, rfl⟩ : ∃ b : Nat, x = (b : Int) := ⟨x.toNat, by omega⟩
      have hb8 : b < 256 := by omega
      have hl : ((b : Int) :: r)[0]? = some (b : Int) := rfl
      simp only [Int.toNat_natCast]
      cases hp : placeL.getD b none with
      | none =>
        have ho : isOp b = false := by unfold isOp; rw [hp]; rfl
        have hv' : ofV b = .tuple #[.agg #[.string ⟨#[]⟩, .int .i64 0, .int .i64 0], .int .i64 13] := by unfold ofV opC errOf; rw [ho]; rfl
        exact readp_opcode _ b hl hb8 v a hf (fun w => by have := of_c b hb8 w; rw [hv'] at this; exact this) w hv.1
      | some p =>
        have ho : isOp b = true := by unfold isOp; rw [hp]; rfl
        obtain ⟨p', hp', hnm, hmd⟩ := op_place b ho
        obtain rfl : p' = p := Option.some.inj (hp'.symm.trans hp)
        have hv' : ofV b = .tuple #[.agg #[.string ⟨(nm b).toArray⟩, .int .i64 ((p' % 13 : Nat) : Int), .int .i64 (kindP (nm b) (md b))], .int .i64 0] := by unfold ofV opC errOf; rw [ho, hmd]; rfl
        have hO : ∀ w, Calls Tryd.prog 24 #[.int .u8 b] w fun e w' => e = .returned (.tuple #[.agg #[.string ⟨(nm b).toArray⟩, .int .i64 ((p' % 13 : Nat) : Int), .int .i64 (kindP (nm b) (md b))], .int .i64 0]) ∧ Below w.heap.size w w' := fun w => by have := of_c b hb8 w; rw [hv'] at this; exact this
        have hm : p' % 13 < 13 := Nat.mod_lt _ (by omega)
        obtain ⟨q1, q2, q3⟩ := lenp_r ⟨p' % 13, hm⟩
        have hdg := len_dg ⟨p' % 13, hm⟩
        have hLn := fun w => lenp_c ((p' % 13 : Nat) : Int) w
        dsimp only at q1 q2 q3 hdg
        rw [q1] at hLn
        simp only []
        generalize p' % 13 = m at *
        unfold readM
        obtain ⟨M, hM⟩ : ∃ M : Nat, lenR (m : Int) = ((M + 1 : Nat) : Int) := ⟨(lenR (m : Int)).toNat - 1, by omega⟩
        generalize hll : (b : Int) :: r = l at *
        by_cases g1 : (l.length : Int) < lenR (m : Int)
        · rw [if_pos g1]; exact readp_short l b hl hb8 v a _ _ _ _ hf hO hLn g1 w hv.1
        · rw [if_neg g1]
          rw [hM] at hLn
          have hM2 : M ≤ 2 := by omega
          have hlen : M + 1 ≤ l.length := by omega
          by_cases g2 : 65536 < a + lenR (m : Int)
          · rw [if_pos g2]
            have hX : fitsD a ((M + 1 : Nat) : Int) = false := by unfold fitsD; simp; omega
            by_cases hk : m = 12
            · have := readp_all l b M m hl hb8 hb v a _ _ _ _ _ hf hm hO hLn hM2 hlen (.inl ⟨hk, rfl⟩) hX rfl w hv hld
              exact this
            · have := readp_all l b M m hl hb8 hb v a _ _ _ _ _ hf hm hO hLn hM2 hlen (.inr ⟨hk, rfl⟩) hX rfl w hv hld
              exact this
          · rw [if_neg g2]
            have hX : fitsD a ((M + 1 : Nat) : Int) = true := by unfold fitsD; simp; omega
            rcases hdg with ⟨d1, d2, d3⟩ | ⟨d1, d2, d3⟩ | ⟨d1, d2, d3⟩ | ⟨d1, d2, d3⟩
            · have : M = 0 := by omega
              subst this
              have hY : (decide (0 ≤ valL ((l.drop 1).take 0)) && decide (valL ((l.drop 1).take 0) < ((16 ^ dgP m : Nat) : Int))) = true := by rw [d2]; rfl
              have := readp_all l b 0 m hl hb8 hb v a _ _ _ _ _ hf hm hO hLn hM2 hlen (.inr ⟨d3, rfl⟩) hX hY w hv hld
              rw [if_neg (by omega : ¬ (m : Int) = 12), if_pos d1]
              exact this
            · have : M = 1 := by omega
              subst this
              have hv1 := rest_one l hlen
              have hb1 := byte_at hb (some_at (l := l) (j := 1) (by omega))
              have hY : (decide (0 ≤ valL ((l.drop 1).take 1)) && decide (valL ((l.drop 1).take 1) < ((16 ^ dgP m : Nat) : Int))) = true := by rw [d2, hv1]; simp only [Bool.and_eq_true, decide_eq_true_eq]; omega
              have := readp_all l b 1 m hl hb8 hb v a _ _ _ _ _ hf hm hO hLn hM2 hlen (.inr ⟨d3, rfl⟩) hX hY w hv hld
              rw [if_neg (by omega : ¬ (m : Int) = 12), if_neg (by omega), if_pos d1, ← hv1]
              exact this
            · have : M = 1 := by omega
              subst this
              have hv1 := rest_one l hlen
              have hb1 := byte_at hb (some_at (l := l) (j := 1) (by omega))
              have hrel : a + ((1 + 1 : Nat) : Int) + IntKind.i8.wrap (valL ((l.drop 1).take 1)) = relN a (l.getD 1 0) := by
                rw [hv1, i8_byte _ hb1.1 hb1.2]
                unfold relN
                split <;> omega
              have := readp_all l b 1 m hl hb8 hb v a _ _ _ _ _ hf hm hO hLn hM2 hlen (.inl ⟨d3, rfl⟩) hX rfl w hv hld
              rw [hrel, d2] at this
              rw [if_pos (by omega : (m : Int) = 12)]
              by_cases hr : 0 ≤ relN a (l.getD 1 0) ∧ relN a (l.getD 1 0) ≤ 65535
              · rw [if_pos hr]
                rw [show (decide (0 ≤ relN a (l.getD 1 0)) && decide (relN a (l.getD 1 0) < ((16 ^ 4 : Nat) : Int))) = true by simp only [Bool.and_eq_true, decide_eq_true_eq]; omega] at this
                exact this
              · rw [if_neg hr]
                rw [show (decide (0 ≤ relN a (l.getD 1 0)) && decide (relN a (l.getD 1 0) < ((16 ^ 4 : Nat) : Int))) = false by simp only [Bool.and_eq_false_iff, decide_eq_false_iff_not]; omega] at this
                exact this
            · have : M = 2 := by omega
              subst this
              have hv1 := rest_two l hlen
              have hb1 := byte_at hb (some_at (l := l) (j := 1) (by omega))
              have hb2 := byte_at hb (some_at (l := l) (j := 2) (by omega))
              have hY : (decide (0 ≤ valL ((l.drop 1).take 2)) && decide (valL ((l.drop 1).take 2) < ((16 ^ dgP m : Nat) : Int))) = true := by rw [d2, hv1]; simp only [Bool.and_eq_true, decide_eq_true_eq]; omega
              have := readp_all l b 2 m hl hb8 hb v a _ _ _ _ _ hf hm hO hLn hM2 hlen (.inr ⟨d3, rfl⟩) hX hY w hv hld
              rw [if_neg (by omega : ¬ (m : Int) = 12), if_neg (by omega), if_neg (by omega), ← hv1]
              exact this
end Go.Proofs.YtpjpoopgafcedaaDoor
