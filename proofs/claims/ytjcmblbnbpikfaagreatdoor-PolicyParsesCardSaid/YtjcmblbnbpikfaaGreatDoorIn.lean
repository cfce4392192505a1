/- Layer 6, the program: whether -/
import Derived.Test.YtjcmblbnbpikfaaGreatDoorLex
set_option linter.unusedSimpArgs false
set_option linter.unusedVariables false
namespace Go.Proofs.YtjcmblbnbpikfaaGreatDoor
open Lib (hid)
open Go.RowKit Go.PlainAid

set_option maxRecDepth 100000 in
set_option maxHeartbeats 1000000 in
theorem in_c (ms : List UInt8) (ha : ∀ m ∈ ms, m.toNat < 128) (hz : ms.length ≤ 100) (b : UInt8) (w : World) : Calls Tryz.prog 70 #[.string (txB ms), .int .u8 (bI b)] w fun e w' => e = .returned (.bool (ms.contains b)) ∧ Below w.heap.size w w' := by
 obtain ⟨R, hR⟩ : ∃ R, ms.contains b = R := ⟨_, rfl⟩
 rw [hR]
 have HR := hid hR
 have HA := hid ha
 have HZ := hid hz
 clear hR ha hz
 have w1 : IntKind.i32.wrap (bI b) = bI b := by have := bI_lo b; have := bI_hi b; rw [IntKind.wrap_i32]; omega
 have HB := hid (fun c => bI_beq c b)
 generalize hS : txB ms = S at *
 have HS := hid hS
 clear hS
 generalize hBI : bI b = BI at *
 clear hBI
 go_enter Tryz.func70, Tryz.ntmps70
 go_wp2
 go_loopg [6] ms.length (fun g s6 wr => ∃ k : Nat, k ≤ ms.length ∧ g = ms.length - k ∧ Hid ((ms.drop k).contains b = R) ∧ wr.heap[w.heap.size]? = some (.stringIter S k) ∧ Below w.heap.size w wr)
 case atStart =>
  refine ⟨0, by omega, by omega, hid (by rw [List.drop_zero]; exact HR.out), ?_, (Below.refl _ _).alloc (Nat.le_refl _) _⟩
  exact heap_alloc_new w _
 case round =>
  obtain ⟨k, hk, rfl, HK, hit, hB⟩ := hrel
  have hw := hB.size
  by_cases hlt : k < ms.length
  ·have hs : k < S.size := by rw [← HS.out, txB_size]; exact hlt
   have hge : S[k]'hs = ms[k] := by
    have h := HS.out
    subst h
    show (ms.toArray)[k]'_ = _
    simp
   have hnx : ∀ ty, (Instr.next (.pointer (some ⟨w.heap.size, 0, none⟩)) true ty).run Tryz.prog wr = .ok (.tuple #[.bool true, .int .i64 k, .int .i32 (bI ms[k])]) (wr.iterAt w.heap.size S (k + 1)) := fun ty => by
    rw [Lib.run_next_ascii_at wr _ S k ty hit hs (by rw [hge]; exact HA.out _ (List.getElem_mem hlt)), hge]; rfl
   have hit' := Lib.iterAt_heap wr w.heap.size S k (k + 1) hit
   have hB' : Below w.heap.size w (wr.iterAt w.heap.size S (k + 1)) := Lib.below_iterAt hB (Nat.le_refl _) S (k + 1)
   generalize wr.iterAt w.heap.size S (k + 1) = u at *
   have hq := HB.out ms[k]
   have HQ := hid (show (if (ms[k] == b) then R = true else (ms.drop (k + 1)).contains b = R) from by
    have h := HK.out
    rw [List.drop_eq_getElem_cons hlt, List.contains_cons] at h
    cases e : (ms[k] == b)
    ·rw [show (b == ms[k]) = false from by rw [Bool.beq_comm]; exact e] at h
     simpa using h
    ·rw [show (b == ms[k]) = true from by rw [Bool.beq_comm]; exact e] at h
     simpa using h.symm)
   clear HK hge
   cases e : (ms[k] == b)
   ·rw [e] at hq
    go_wp2
    go_roundg (ms.length - (k + 1))
    case measure => omega
    case rel => exact ⟨k + 1, by omega, rfl, hid (by have h := HQ.out; rw [e] at h; simpa using h), hit', hB'⟩
   ·rw [e] at hq
    go_wp2
    go_ret
    exact ⟨ret_bool (by have h := HQ.out; rw [e] at h; exact h.symm), hB'⟩
  ·have hnx : ∀ ty, (Instr.next (.pointer (some ⟨w.heap.size, 0, none⟩)) true ty).run Tryz.prog wr = .ok (.tuple #[.bool false]) wr := fun ty => by
    rw [Lib.run_next_end_at wr _ S k ty hit (by rw [← HS.out, txB_size]; exact hlt)]
   have HF := hid (show R = false from by
    have h := HK.out
    rw [List.drop_eq_nil_of_le (by omega)] at h
    exact h.symm)
   clear HK
   go_wp2
   go_ret
   exact ⟨ret_bool HF.out.symm, hB⟩
end Go.Proofs.YtjcmblbnbpikfaaGreatDoor
