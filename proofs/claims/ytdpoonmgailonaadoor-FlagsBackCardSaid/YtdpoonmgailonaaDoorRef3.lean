/-
  What the document's answer of layer 1 comes to: Zero; the eight bits of a byte, and the byte of eight bits.
-/
import Derived.Test.YtdpoonmgailonaaDoorRef2
import Derived.Outline
set_option linter.unusedSimpArgs false
set_option linter.unusedVariables false
namespace Go.Proofs.YtdpoonmgailonaaDoor
open Go.RowKit

set_option maxHeartbeats 1000000 in
set_option maxRecDepth 100000 in
theorem zero_r (x t : BitVec 8) (w : World) : Calls Tryd.prog 30 #[TB x t] w fun e w' => e = .returned (TBit (x == 0#8) (zT x t)) ∧ Below w.heap.size w w' := by
  have h1 := u8_lo x
  have h2 := u8_hi x
  go_enter Tryd.func30, Tryd.ntmps30
  go_wp2_with fail
  go_loopw [3, 4, 5, 6] (fun no yes al i wr => ∃ k : Nat, k ≤ 8 ∧ i = .int .i64 k ∧ no = .bool (allTo (m0 x t) k) ∧ yes = .bool (anyTo (m1 x t) k) ∧ al = .bool (allTo (fun i => !bitAt x i) k) ∧ wr.cell? ⟨w.heap.size, 0, none⟩ = some (B8 x) ∧ wr.cell? ⟨w.heap.size, 1, none⟩ = some (B8 t) ∧ wr.cell? ⟨w.heap.size + 1, 0, none⟩ = some (.bool false) ∧ wr.frozen? ⟨w.heap.size + 1, 0, none⟩ = false ∧ wr.cell? ⟨w.heap.size + 1, 1, none⟩ = some (.bool false) ∧ wr.frozen? ⟨w.heap.size + 1, 1, none⟩ = false ∧ Below w.heap.size w wr) (fun _ _ _ i _ => 8 - (intOf i).toNat)
  case atStart => exact ⟨0, by omega, rfl, rfl, rfl, rfl, by go_simp, by go_simp, by go_simp, by go_simp, by go_simp, by go_simp, by go_grown⟩
  case round =>
    obtain ⟨k, hk, rfl, rfl, rfl, rfl, hrel⟩ := hrel
    obtain ⟨ha_0, ha_1, hr_0, fr_0, hr_1, fr_1, hB⟩ := hrel
    have hsz := hB.size
    have hla := klt ha_0
    have hlr := klt hr_0
    have hna0 : ¬ (w.heap.size = wr.heap.size) := by omega
    have hna1 : ¬ (w.heap.size = wr.heap.size + 1) := by omega
    have hka1 : w.heap.size < wr.heap.size + 1 := by omega
    have hna2 : ¬ (w.heap.size = wr.heap.size + 1 + 1) := by omega
    have hka2 : w.heap.size < wr.heap.size + 1 + 1 := by omega
    have hnr0 : ¬ (w.heap.size + 1 = wr.heap.size) := by omega
    have hkr1 : w.heap.size < wr.heap.size := by omega
    by_cases hlt : k < 8
    · have E0 : Hid (allTo (m0 x t) (k + 1) = (allTo (m0 x t) k && m0 x t k)) := Lib.hid rfl
      have E1 : Hid (anyTo (m1 x t) (k + 1) = (anyTo (m1 x t) k || m1 x t k)) := Lib.hid rfl
      have E2 : Hid (allTo (fun i => !bitAt x i) (k + 1) = (allTo (fun i => !bitAt x i) k && !bitAt x k)) := Lib.hid rfl
      go_wp2_with fail
      ((with_reducible refine (may_c _ _ k hlt _).mono ?_); rintro _ w1 ⟨rfl, hb⟩)
      have T : w1.cell? ⟨w.heap.size, 0, none⟩ = some (B8 x) ∧ w1.cell? ⟨w.heap.size, 1, none⟩ = some (B8 t) ∧ w1.cell? ⟨w.heap.size + 1, 0, none⟩ = some (.bool false) ∧ w1.frozen? ⟨w.heap.size + 1, 0, none⟩ = false ∧ w1.cell? ⟨w.heap.size + 1, 1, none⟩ = some (.bool false) ∧ w1.frozen? ⟨w.heap.size + 1, 1, none⟩ = false := by
          refine ⟨?_, ?_, ?_, ?_, ?_, ?_⟩ <;> first | (refine kc hb ?_ <;> (go_simp; first | done | rfl)) | (refine kfz hb ?_ ?_ <;> first | (go_size; done) | (go_simp; done))
      have hz := hb.size
      (try simp only [World.size_alloc, World.size_setCell, World.size_drew] at hz)
      have hla' : w.heap.size < w1.heap.size := by omega
      have hlr' : w.heap.size + 1 < w1.heap.size := by omega
      have hB' : Below w.heap.size w w1 := by
          refine kb ?_ hb
          go_grown
      clear ha_0 ha_1 hr_0 fr_0 hr_1 fr_1 hB hsz hla hlr hna0 hna1 hka1 hna2 hka2 hnr0 hkr1
      clear hb hz
      obtain ⟨ha_0, ha_1, hr_0, fr_0, hr_1, fr_1⟩ := T
      have hla := hla'; clear hla'
      have hlr := hlr'; clear hlr'
      have hna0 : ¬ (w.heap.size = w1.heap.size) := by omega
      have hna1 : ¬ (w.heap.size = w1.heap.size + 1) := by omega
      have hka1 : w.heap.size < w1.heap.size + 1 := by omega
      have hna2 : ¬ (w.heap.size = w1.heap.size + 1 + 1) := by omega
      have hka2 : w.heap.size < w1.heap.size + 1 + 1 := by omega
      have hnr0 : ¬ (w.heap.size + 1 = w1.heap.size) := by omega
      have hkr1 : w.heap.size < w1.heap.size := by omega
      have hB := hB'; clear hB'
      have hsz := hB.size
      generalize allTo (m0 x t) k = p0 at *
      generalize anyTo (m1 x t) k = p1 at *
      generalize allTo (fun i => !bitAt x i) k = p2 at *
      cases p0 <;> cases p1 <;> cases p2
      all_goals
        go_wp2_with (go_at_call 25; ((with_reducible refine (has_c _ k hlt _).mono ?_); rintro _ _ ⟨rfl, rfl⟩))
        go_roundw
        case rel =>
          refine ⟨k + 1, by omega, by go_num, by rw [E0.out]; simp, by rw [E1.out]; simp, by rw [E2.out]; simp, ?_, ?_, ?_, ?_, ?_, ?_, ?_⟩ <;> first | (go_simp; done) | go_grown
        case measure => simp [intOf]; omega
    · have hk8 : k = 8 := by omega
      subst hk8
      have E := Lib.hid (zero_may x t)
      have F := Lib.hid (zero_bits x)
      generalize allTo (m0 x t) 8 = p0 at *
      generalize anyTo (m1 x t) 8 = p1 at *
      generalize allTo (fun i => !bitAt x i) 8 = p2 at *
      cases p0
      all_goals
        go_wp2
        have E' := E.out
        have F' := F.out
        subst F'
        rw [← E']
        refine bodyPost_ret (v := TBit _ _) (by simp [results, Tryd.results30, go_sem, hr_0, hr_1] <;> first | done | rfl | exact dec_eq Iff.rfl) rfl ⟨rfl, by go_grown⟩
end Go.Proofs.YtdpoonmgailonaaDoor
