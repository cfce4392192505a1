/-
  A register's letters, as the document's answer writes them.
-/
import Derived.Test.YtdpoonmgailonaaDoorText
import Derived.Laws.IdiomStrings
set_option linter.unusedSimpArgs false
set_option linter.unusedVariables false
namespace Go.Proofs.YtdpoonmgailonaaDoor
open Go.RowKit

theorem enc_one (c : Int) (h0 : 0 ≤ c) (h1 : c < 128) : Utf8.encode c = ⟨#[UInt8.ofNat c.toNat]⟩ := by
  unfold Utf8.encode
  have hv : Utf8.valid c = true := by unfold Utf8.valid; simp; omega
  simp only [hv, if_true]
  rw [if_pos (by omega)]
theorem conv_one (u : World) (b : Nat) (c : Int) (h0 : 0 ≤ c) (h1 : c < 128) (hb : b = u.heap.size) :
    (convert 54 9 (.slice (some ⟨b, 0, none⟩) 1 1)).run Tryd.prog (u.alloc (.cells #[.int .u8 c] 5)) = .ok (.string (Utf8.encode c)) (u.alloc (.cells #[.int .u8 c] 5)) := by
  subst hb
  have h := run_convert_bytes_back (P := Tryd.prog) (u.alloc (.cells #[.int .u8 c] 5)) 54 9 5 ⟨u.heap.size, 0, none⟩ 1 [UInt8.ofNat c.toNat] Tryd.underlying54 Tryd.underlying5 Tryd.underlying9 (fun j hj => by
    have hj0 : j = 0 := by simp at hj; omega
    subst hj0
    have e : ((UInt8.ofNat c.toNat).toNat : Int) = c := by simp; omega
    show (u.alloc (.cells #[.int .u8 c] 5)).cell? ⟨u.heap.size, 0, none⟩ = some (.int .u8 ((UInt8.ofNat c.toNat).toNat : Int))
    rw [e]
    go_simp)
  rw [enc_one c h0 h1]
  exact h
theorem txtTo_succ (x t : BitVec 8) (k : Nat) : txtTo x t (k + 1) = txtTo x t k ++ Utf8.encode (letD x t k) := by
  unfold txtTo runesBytes
  rw [runes_succ, List.foldl_append]
  rfl
theorem txtTo_size (x t : BitVec 8) : ∀ k, k ≤ 8 → (txtTo x t k).size = k
  | 0, _ => rfl
  | k + 1, h => by
    rw [txtTo_succ, ByteArray.size_append, txtTo_size x t k (by omega), enc_one _ (by have := letD_lo x t k (by omega); omega) (by have := letD_hi x t k (by omega); omega)]
    rfl
theorem lt_at (k : Nat) (h : k < 8) : (((⟨#[78, 86, 79, 66, 68, 73, 90, 67]⟩ : ByteArray)[k]'h).toNat : Int) = lt k := by
  have : ∀ k : Fin 8, (((⟨#[78, 86, 79, 66, 68, 73, 90, 67]⟩ : ByteArray)[k.val]'(k.isLt)).toNat : Int) = lt k.val := by decide +kernel
  exact this ⟨k, h⟩

set_option maxHeartbeats 2000000 in
set_option maxRecDepth 100000 in
theorem rtext_c (x t : BitVec 8) (w : World) : Calls Tryd.prog 21 #[TB x t] w fun e w' => e = .returned (.string (txt x t)) ∧ Below w.heap.size w w' := by
  go_enter Tryd.func21, Tryd.ntmps21
  go_wp2
  go_loopw [3, 4] (fun o i wr => ∃ k : Nat, k ≤ 8 ∧ o = .string (txtTo x t k) ∧ i = .int .i64 k ∧ wr.cell? ⟨w.heap.size, 0, none⟩ = some (B8 x) ∧ wr.cell? ⟨w.heap.size, 1, none⟩ = some (B8 t) ∧ Below w.heap.size w wr) (fun _ i _ => 8 - (intOf i).toNat)
  case atStart => exact ⟨0, by omega, rfl, rfl, by go_simp, by go_simp, by go_grown⟩
  case round =>
    obtain ⟨k, hk, rfl, rfl, hrel⟩ := hrel
    obtain ⟨ha_0, ha_1, hB⟩ := hrel
    have hsz := hB.size
    have hla := klt ha_0
    have hna0 : ¬ (w.heap.size = wr.heap.size) := by omega
    have hna1 : ¬ (w.heap.size = wr.heap.size + 1) := by omega
    have hka1 : w.heap.size < wr.heap.size + 1 := by omega
    have hna2 : ¬ (w.heap.size = wr.heap.size + 1 + 1) := by omega
    have hka2 : w.heap.size < wr.heap.size + 1 + 1 := by omega
    by_cases hlt : k < 8
    · have hlo := lt_lo k hlt
      have hhi := lt_hi k hlt
      have hix := lt_at
      go_wp2_with fail
      ((with_reducible refine (rbit_i x t _ _).mono ?_); rintro _ w1 ⟨rfl, hb⟩)
      have T : w1.cell? ⟨w.heap.size, 0, none⟩ = some (B8 x) ∧ w1.cell? ⟨w.heap.size, 1, none⟩ = some (B8 t) := by
          refine ⟨?_, ?_⟩ <;> refine kc hb ?_ <;> (go_simp; first | done | rfl)
      have hz := hb.size
      (try simp only [World.size_alloc, World.size_setCell, World.size_drew] at hz)
      have hla' : w.heap.size < w1.heap.size := by omega
      have hB' : Below w.heap.size w w1 := by
          refine kb ?_ hb
          go_grown
      clear ha_0 ha_1 hB hsz hla hna0 hna1 hka1 hna2 hka2
      clear hb hz
      obtain ⟨ha_0, ha_1⟩ := T
      have hla := hla'; clear hla'
      have hna0 : ¬ (w.heap.size = w1.heap.size) := by omega
      have hna1 : ¬ (w.heap.size = w1.heap.size + 1) := by omega
      have hka1 : w.heap.size < w1.heap.size + 1 := by omega
      have hna2 : ¬ (w.heap.size = w1.heap.size + 1 + 1) := by omega
      have hka2 : w.heap.size < w1.heap.size + 1 + 1 := by omega
      have hB := hB'; clear hB'
      have hsz := hB.size
      have hadd : ∀ u : World, (Op.stringOp .add (txtTo x t k) (Utf8.encode (letD x t k))).run Tryd.prog u = .ok (.string (txtTo x t (k + 1))) u := fun u => by
        rw [txtTo_succ]
        refine run_string_add_sum _ _ _ ?_
        rw [txtTo_size x t k (by omega)]
        have := encode_size_le (letD x t k)
        omega
      have hcv := fun (u : World) (b : Nat) => conv_one u b (letD x t k) (by have := letD_lo x t k hlt; omega) (by have := letD_hi x t k hlt; omega)
      have hD : letD x t k = letR (lt k) (getI x (7 - k)) (getI t (7 - k)) := rfl
      generalize letD x t k = D at *
      have hw : IntKind.u8.wrap (lt k + 32) = lt k + 32 := by rw [IntKind.wrap_u8]; omega
      generalize getI x (7 - k) = v at *
      generalize getI t (7 - k) = s at *
      cases v <;> cases s
      all_goals
        simp only [letR, if_true, if_false, Bool.false_eq_true] at hD
        subst hD
        go_wp2
        go_roundw
        case rel => exact ⟨k + 1, by omega, rfl, by go_num, by go_simp, by go_simp, by go_grown⟩
        case measure => simp [intOf]; omega
    · have hk8 : k = 8 := by omega
      subst hk8
      go_wp2
      go_ret
      exact ⟨rfl, hB⟩
end Go.Proofs.YtdpoonmgailonaaDoor
