/-
  FlagsBack returns true: the walk.
-/
import Derived.Test.YtdpoonmgailonaaDoorBits2
import Derived.Test.YtdpoonmgailonaaDoorParse
import Derived.Test.YtdpoonmgailonaaDoorAwake3
set_option linter.unusedSimpArgs false
set_option linter.unusedVariables false
namespace Go.Proofs.YtdpoonmgailonaaDoor
open Go.RowKit

set_option maxRecDepth 100000 in
set_option maxHeartbeats 8000000 in
theorem back_walk' (x t b Y PT A AT M M' N : BitVec 8) (Pu : Bool → BitVec 8) (S : ByteArray) (hS : S.size = 8)
    (c1 : ∀ w, Calls Tryd.prog 20 #[TB x t] w fun e w' => e = .returned (.string S) ∧ Below w.heap.size w w')
    (c2 : ∀ w, Calls Tryd.prog 18 #[.string S] w fun e w' => e = .returned (.tuple #[TB Y t, .int .i64 0]) ∧ Below w.heap.size w w')
    (c3 : ∀ w, Calls Tryd.prog 22 #[TB Y t, TB x t] w fun e w' => e = .returned (.bool true) ∧ Below w.heap.size w w')
    (c4 : ∀ w, Calls Tryd.prog 20 #[TB (x ^^^ (b &&& t)) t] w fun e w' => e = .returned (.string S) ∧ Below w.heap.size w w')
    (c5 : ∀ c w, Calls Tryd.prog 14 #[TB x t, .bool c] w fun e w' => e = .returned (TB (Pu c) PT) ∧ Below w.heap.size w w')
    (c6 : ∀ c w, Calls Tryd.prog 16 #[TB (Pu c) PT] w fun e w' => e = .returned (TB A AT) ∧ Below w.heap.size w w')
    (c7 : ∀ w, Calls Tryd.prog 16 #[TB x t] w fun e w' => e = .returned (TB A AT) ∧ Below w.heap.size w w')
    (g5 : ∀ w, Calls Tryd.prog 8 #[TB A AT, .int .i64 5] w fun e w' => e = .returned (TBit true false) ∧ Below w.heap.size w w')
    (g4 : ∀ w, Calls Tryd.prog 8 #[TB A AT, .int .i64 4] w fun e w' => e = .returned (TBit false false) ∧ Below w.heap.size w w')
    (gk : ∀ k : Nat, k < 8 → k ≠ 4 → k ≠ 5 → ∀ w, Calls Tryd.prog 8 #[TB A AT, .int .i64 k] w fun e w' => e = .returned (TBit (getI x k) (getI t k)) ∧ Below w.heap.size w w')
    (c8 : ∀ w, Calls Tryd.prog 12 #[TB x t, TB x t] w fun e w' => e = .returned (TB M N) ∧ Below w.heap.size w w')
    (c9 : ∀ w, Calls Tryd.prog 12 #[TB (x ^^^ (b &&& t)) t, TB (x ^^^ (b &&& t)) t] w fun e w' => e = .returned (TB M' N) ∧ Below w.heap.size w w')
    (c10 : ∀ w, Calls Tryd.prog 22 #[TB M N, TB M' N] w fun e w' => e = .returned (.bool true) ∧ Below w.heap.size w w') (w : World) :
    Calls Tryd.prog 5 #[TB x t, B8 b] w (LawEnd w) := by
  have H1 := Lib.hid c1
  have H2 := Lib.hid c2
  have H3 := Lib.hid c3
  have H4 := Lib.hid c4
  have H5 := Lib.hid c5
  have H6 := Lib.hid c6
  have H7 := Lib.hid c7
  have H8 := Lib.hid c8
  have H9 := Lib.hid c9
  have H10 := Lib.hid c10
  have G5 := Lib.hid g5
  have G4 := Lib.hid g4
  have GK := Lib.hid gk
  clear c1 c2 c3 c4 c5 c6 c7 c8 c9 c10 g5 g4 gk
  have ua := u8_and
  have ux := u8_xor
  go_enter Tryd.func5, Tryd.ntmps5
  go_wp2_with fail
  ((with_reducible refine (H1.out _).mono ?_); rintro _ w1 ⟨rfl, hb⟩)
  have T : w1.cell? ⟨w.heap.size, 0, none⟩ = some (B8 x) ∧ w1.cell? ⟨w.heap.size, 1, none⟩ = some (B8 t) := by
      refine ⟨?_, ?_⟩ <;> refine kc hb ?_ <;> (go_simp; first | done | rfl)
  have hz := hb.size
  (try simp only [World.size_alloc, World.size_setCell, World.size_drew] at hz)
  have hlp' : w.heap.size < w1.heap.size := by omega
  have hB' : Below w.heap.size w w1 := by
      refine kb ?_ hb
      go_grown
  clear hb hz
  obtain ⟨hp_0, hp_1⟩ := T
  have hlp := hlp'; clear hlp'
  have hnp0 : ¬ (w.heap.size = w1.heap.size) := by omega
  have hnp1 : ¬ (w.heap.size = w1.heap.size + 1) := by omega
  have hkp1 : w.heap.size < w1.heap.size + 1 := by omega
  have hnp2 : ¬ (w.heap.size = w1.heap.size + 1 + 1) := by omega
  have hkp2 : w.heap.size < w1.heap.size + 1 + 1 := by omega
  have hB := hB'; clear hB'
  have hsz := hB.size
  go_wp2_with fail
  ((with_reducible refine (H2.out _).mono ?_); rintro _ w2 ⟨rfl, hb⟩)
  have T : w2.cell? ⟨w.heap.size, 0, none⟩ = some (B8 x) ∧ w2.cell? ⟨w.heap.size, 1, none⟩ = some (B8 t) := by
      refine ⟨?_, ?_⟩ <;> refine kc hb ?_ <;> (go_simp; first | done | rfl)
  have hz := hb.size
  (try simp only [World.size_alloc, World.size_setCell, World.size_drew] at hz)
  have hlp' : w.heap.size < w2.heap.size := by omega
  have hB' : Below w.heap.size w w2 := by
      refine kb ?_ hb
      go_grown
  clear hp_0 hp_1 hlp hnp0 hnp1 hkp1 hnp2 hkp2 hB hsz
  clear hb hz
  obtain ⟨hp_0, hp_1⟩ := T
  have hlp := hlp'; clear hlp'
  have hnp0 : ¬ (w.heap.size = w2.heap.size) := by omega
  have hnp1 : ¬ (w.heap.size = w2.heap.size + 1) := by omega
  have hkp1 : w.heap.size < w2.heap.size + 1 := by omega
  have hnp2 : ¬ (w.heap.size = w2.heap.size + 1 + 1) := by omega
  have hkp2 : w.heap.size < w2.heap.size + 1 + 1 := by omega
  have hB := hB'; clear hB'
  have hsz := hB.size
  go_wp2_with fail
  ((with_reducible refine (H3.out _).mono ?_); rintro _ w3 ⟨rfl, hb⟩)
  have T : w3.cell? ⟨w.heap.size, 0, none⟩ = some (B8 x) ∧ w3.cell? ⟨w.heap.size, 1, none⟩ = some (B8 t) ∧ w3.cell? ⟨w2.heap.size, 0, none⟩ = some (B8 Y) ∧ w3.cell? ⟨w2.heap.size, 1, none⟩ = some (B8 t) ∧ w3.cell? ⟨w2.heap.size + 1, 0, none⟩ = some (B8 (x ^^^ (b &&& t))) ∧ w3.cell? ⟨w2.heap.size + 1, 1, none⟩ = some (B8 t) := by
      refine ⟨?_, ?_, ?_, ?_, ?_, ?_⟩ <;> refine kc hb ?_ <;> (go_simp; first | done | rfl)
  have hz := hb.size
  (try simp only [World.size_alloc, World.size_setCell, World.size_drew] at hz)
  have hlp' : w.heap.size < w3.heap.size := by omega
  have hlq' : w2.heap.size < w3.heap.size := by omega
  have hlo' : w2.heap.size + 1 < w3.heap.size := by omega
  have hB' : Below w.heap.size w w3 := by
      refine kb ?_ hb
      go_grown
  clear hp_0 hp_1 hlp hnp0 hnp1 hkp1 hnp2 hkp2 hB hsz
  clear hb hz
  obtain ⟨hp_0, hp_1, hq_0, hq_1, ho_0, ho_1⟩ := T
  have hlp := hlp'; clear hlp'
  have hlq := hlq'; clear hlq'
  have hlo := hlo'; clear hlo'
  have hnp0 : ¬ (w.heap.size = w3.heap.size) := by omega
  have hnp1 : ¬ (w.heap.size = w3.heap.size + 1) := by omega
  have hkp1 : w.heap.size < w3.heap.size + 1 := by omega
  have hnp2 : ¬ (w.heap.size = w3.heap.size + 1 + 1) := by omega
  have hkp2 : w.heap.size < w3.heap.size + 1 + 1 := by omega
  have hnq0 : ¬ (w2.heap.size = w3.heap.size) := by omega
  have hnq1 : ¬ (w2.heap.size = w3.heap.size + 1) := by omega
  have hkq1 : w2.heap.size < w3.heap.size + 1 := by omega
  have hnq2 : ¬ (w2.heap.size = w3.heap.size + 1 + 1) := by omega
  have hkq2 : w2.heap.size < w3.heap.size + 1 + 1 := by omega
  have hno0 : ¬ (w2.heap.size + 1 = w3.heap.size) := by omega
  have hko1 : w2.heap.size < w3.heap.size := by omega
  have hB := hB'; clear hB'
  have hsz := hB.size
  go_wp2_with fail
  ((with_reducible refine (H4.out _).mono ?_); rintro _ w4 ⟨rfl, hb⟩)
  have T : w4.cell? ⟨w.heap.size, 0, none⟩ = some (B8 x) ∧ w4.cell? ⟨w.heap.size, 1, none⟩ = some (B8 t) ∧ w4.cell? ⟨w2.heap.size + 1, 0, none⟩ = some (B8 (x ^^^ (b &&& t))) ∧ w4.cell? ⟨w2.heap.size + 1, 1, none⟩ = some (B8 t) := by
      refine ⟨?_, ?_, ?_, ?_⟩ <;> refine kc hb ?_ <;> (go_simp; first | done | rfl)
  have hz := hb.size
  (try simp only [World.size_alloc, World.size_setCell, World.size_drew] at hz)
  have hlp' : w.heap.size < w4.heap.size := by omega
  have hlo' : w2.heap.size + 1 < w4.heap.size := by omega
  have hB' : Below w.heap.size w w4 := by
      refine kb ?_ hb
      go_grown
  clear hp_0 hp_1 hq_0 hq_1 ho_0 ho_1 hlp hlq hlo hnp0 hnp1 hkp1 hnp2 hkp2 hnq0 hnq1 hkq1 hnq2 hkq2 hno0 hko1 hB hsz
  clear hb hz
  obtain ⟨hp_0, hp_1, ho_0, ho_1⟩ := T
  have hlp := hlp'; clear hlp'
  have hlo := hlo'; clear hlo'
  have hnp0 : ¬ (w.heap.size = w4.heap.size) := by omega
  have hnp1 : ¬ (w.heap.size = w4.heap.size + 1) := by omega
  have hkp1 : w.heap.size < w4.heap.size + 1 := by omega
  have hnp2 : ¬ (w.heap.size = w4.heap.size + 1 + 1) := by omega
  have hkp2 : w.heap.size < w4.heap.size + 1 + 1 := by omega
  have hno0 : ¬ (w2.heap.size + 1 = w4.heap.size) := by omega
  have hno1 : ¬ (w2.heap.size = w4.heap.size) := by omega
  have hko1 : w2.heap.size < w4.heap.size := by omega
  have hno2 : ¬ (w2.heap.size = w4.heap.size + 1) := by omega
  have hko2 : w2.heap.size < w4.heap.size + 1 := by omega
  have hB := hB'; clear hB'
  have hsz := hB.size
  go_wp2_with fail
  ((with_reducible refine (H5.out _ _).mono ?_); rintro _ w5 ⟨rfl, hb⟩)
  have T : w5.cell? ⟨w.heap.size, 0, none⟩ = some (B8 x) ∧ w5.cell? ⟨w.heap.size, 1, none⟩ = some (B8 t) ∧ w5.cell? ⟨w2.heap.size + 1, 0, none⟩ = some (B8 (x ^^^ (b &&& t))) ∧ w5.cell? ⟨w2.heap.size + 1, 1, none⟩ = some (B8 t) := by
      refine ⟨?_, ?_, ?_, ?_⟩ <;> refine kc hb ?_ <;> (go_simp; first | done | rfl)
  have hz := hb.size
  (try simp only [World.size_alloc, World.size_setCell, World.size_drew] at hz)
  have hlp' : w.heap.size < w5.heap.size := by omega
  have hlo' : w2.heap.size + 1 < w5.heap.size := by omega
  have hB' : Below w.heap.size w w5 := by
      refine kb ?_ hb
      go_grown
  clear hp_0 hp_1 ho_0 ho_1 hlp hlo hnp0 hnp1 hkp1 hnp2 hkp2 hno0 hno1 hko1 hno2 hko2 hB hsz
  clear hb hz
  obtain ⟨hp_0, hp_1, ho_0, ho_1⟩ := T
  have hlp := hlp'; clear hlp'
  have hlo := hlo'; clear hlo'
  have hnp0 : ¬ (w.heap.size = w5.heap.size) := by omega
  have hnp1 : ¬ (w.heap.size = w5.heap.size + 1) := by omega
  have hkp1 : w.heap.size < w5.heap.size + 1 := by omega
  have hnp2 : ¬ (w.heap.size = w5.heap.size + 1 + 1) := by omega
  have hkp2 : w.heap.size < w5.heap.size + 1 + 1 := by omega
  have hno0 : ¬ (w2.heap.size + 1 = w5.heap.size) := by omega
  have hno1 : ¬ (w2.heap.size = w5.heap.size) := by omega
  have hko1 : w2.heap.size < w5.heap.size := by omega
  have hno2 : ¬ (w2.heap.size = w5.heap.size + 1) := by omega
  have hko2 : w2.heap.size < w5.heap.size + 1 := by omega
  have hB := hB'; clear hB'
  have hsz := hB.size
  go_wp2_with fail
  ((with_reducible refine (H6.out _ _).mono ?_); rintro _ w6 ⟨rfl, hb⟩)
  have T : w6.cell? ⟨w.heap.size, 0, none⟩ = some (B8 x) ∧ w6.cell? ⟨w.heap.size, 1, none⟩ = some (B8 t) ∧ w6.cell? ⟨w2.heap.size + 1, 0, none⟩ = some (B8 (x ^^^ (b &&& t))) ∧ w6.cell? ⟨w2.heap.size + 1, 1, none⟩ = some (B8 t) := by
      refine ⟨?_, ?_, ?_, ?_⟩ <;> refine kc hb ?_ <;> (go_simp; first | done | rfl)
  have hz := hb.size
  (try simp only [World.size_alloc, World.size_setCell, World.size_drew] at hz)
  have hlp' : w.heap.size < w6.heap.size := by omega
  have hlo' : w2.heap.size + 1 < w6.heap.size := by omega
  have hB' : Below w.heap.size w w6 := by
      refine kb ?_ hb
      go_grown
  clear hp_0 hp_1 ho_0 ho_1 hlp hlo hnp0 hnp1 hkp1 hnp2 hkp2 hno0 hno1 hko1 hno2 hko2 hB hsz
  clear hb hz
  obtain ⟨hp_0, hp_1, ho_0, ho_1⟩ := T
  have hlp := hlp'; clear hlp'
  have hlo := hlo'; clear hlo'
  have hnp0 : ¬ (w.heap.size = w6.heap.size) := by omega
  have hnp1 : ¬ (w.heap.size = w6.heap.size + 1) := by omega
  have hkp1 : w.heap.size < w6.heap.size + 1 := by omega
  have hnp2 : ¬ (w.heap.size = w6.heap.size + 1 + 1) := by omega
  have hkp2 : w.heap.size < w6.heap.size + 1 + 1 := by omega
  have hno0 : ¬ (w2.heap.size + 1 = w6.heap.size) := by omega
  have hno1 : ¬ (w2.heap.size = w6.heap.size) := by omega
  have hko1 : w2.heap.size < w6.heap.size := by omega
  have hno2 : ¬ (w2.heap.size = w6.heap.size + 1) := by omega
  have hko2 : w2.heap.size < w6.heap.size + 1 := by omega
  have hB := hB'; clear hB'
  have hsz := hB.size
  go_wp2_with fail
  clear ua ux hS
  go_loopw [10] (fun i wr => ∃ k : Nat, k ≤ 8 ∧ i = .int .i64 k ∧ wr.cell? ⟨w.heap.size, 0, none⟩ = some (B8 x) ∧ wr.cell? ⟨w.heap.size, 1, none⟩ = some (B8 t) ∧ wr.cell? ⟨w2.heap.size + 1, 0, none⟩ = some (B8 (x ^^^ (b &&& t))) ∧ wr.cell? ⟨w2.heap.size + 1, 1, none⟩ = some (B8 t) ∧ wr.cell? ⟨w6.heap.size, 0, none⟩ = some (B8 A) ∧ wr.cell? ⟨w6.heap.size, 1, none⟩ = some (B8 AT) ∧ Below w.heap.size w wr) (fun i _ => 8 - (intOf i).toNat)
  case atStart => exact ⟨0, by omega, rfl, by go_simp, by go_simp, by go_simp, by go_simp, by go_simp, by go_simp, by go_grown⟩
  case round =>
    obtain ⟨k, hk, rfl, hrel⟩ := hrel
    clear hp_0 hp_1 ho_0 ho_1 hlp hlo hnp0 hnp1 hkp1 hnp2 hkp2 hno0 hno1 hko1 hno2 hko2 hB hsz
    obtain ⟨hp_0, hp_1, ho_0, ho_1, ha_0, ha_1, hB⟩ := hrel
    have hsz := hB.size
    have hlp := klt hp_0
    have hlo := klt ho_0
    have hla := klt ha_0
    have hnp0 : ¬ (w.heap.size = wr.heap.size) := by omega
    have hnp1 : ¬ (w.heap.size = wr.heap.size + 1) := by omega
    have hkp1 : w.heap.size < wr.heap.size + 1 := by omega
    have hnp2 : ¬ (w.heap.size = wr.heap.size + 1 + 1) := by omega
    have hkp2 : w.heap.size < wr.heap.size + 1 + 1 := by omega
    have hno0 : ¬ (w2.heap.size + 1 = wr.heap.size) := by omega
    have hno1 : ¬ (w2.heap.size = wr.heap.size) := by omega
    have hko1 : w2.heap.size < wr.heap.size := by omega
    have hno2 : ¬ (w2.heap.size = wr.heap.size + 1) := by omega
    have hko2 : w2.heap.size < wr.heap.size + 1 := by omega
    have hna0 : ¬ (w6.heap.size = wr.heap.size) := by omega
    have hna1 : ¬ (w6.heap.size = wr.heap.size + 1) := by omega
    have hka1 : w6.heap.size < wr.heap.size + 1 := by omega
    have hna2 : ¬ (w6.heap.size = wr.heap.size + 1 + 1) := by omega
    have hka2 : w6.heap.size < wr.heap.size + 1 + 1 := by omega
    by_cases hlt : k < 8
    · by_cases e1 : k = 4
      · subst e1
        go_wp2_with fail
        refine wp_region_plan (fun w' => w'.cell? ⟨w.heap.size, 0, none⟩ = some (B8 x) ∧ w'.cell? ⟨w.heap.size, 1, none⟩ = some (B8 t) ∧ w'.cell? ⟨w2.heap.size + 1, 0, none⟩ = some (B8 (x ^^^ (b &&& t))) ∧ w'.cell? ⟨w2.heap.size + 1, 1, none⟩ = some (B8 t) ∧ w'.cell? ⟨w6.heap.size, 0, none⟩ = some (B8 A) ∧ w'.cell? ⟨w6.heap.size, 1, none⟩ = some (B8 AT) ∧ Below w.heap.size w w') (by kernel_rfl) (by kernel_rfl) (by kernel_rfl) ?_ ?_
        · (try dsimp only)
          refine ⟨?_, ?_, ?_, ?_, ?_, ?_, ?_⟩ <;> first | (go_simp; done) | (simp [*]; done) | go_grown
        repeat (first
          | (refine Plan.val (v := ?_) ?_ ?_ ?_; rotate_left; (· rfl); (· (intro W hSw; (try dsimp only at hSw); go_simp; all_goals (first | (with_reducible rfl) | (constructor <;> (with_reducible rfl))))); (try simp only [Act.put, List.setIfInBounds_toArray, List.set_cons_zero, List.set_cons_succ]))
          | (refine Plan.no ?_ ?_; (· rfl); (try simp only [Act.put, List.setIfInBounds_toArray, List.set_cons_zero, List.set_cons_succ])))
        refine Plan.done ?_
        intro w7 T
        (try dsimp only at T)
        clear hp_0 hp_1 ho_0 ho_1 ha_0 ha_1 hB hsz hlp hlo hla hnp0 hnp1 hkp1 hnp2 hkp2 hno0 hno1 hko1 hno2 hko2 hna0 hna1 hka1 hna2 hka2
        obtain ⟨hp_0, hp_1, ho_0, ho_1, ha_0, ha_1, hB⟩ := T
        have hsz := hB.size
        have hlp := klt hp_0
        have hlo := klt ho_0
        have hla := klt ha_0
        have hnp0 : ¬ (w.heap.size = w7.heap.size) := by omega
        have hnp1 : ¬ (w.heap.size = w7.heap.size + 1) := by omega
        have hkp1 : w.heap.size < w7.heap.size + 1 := by omega
        have hnp2 : ¬ (w.heap.size = w7.heap.size + 1 + 1) := by omega
        have hkp2 : w.heap.size < w7.heap.size + 1 + 1 := by omega
        have hno0 : ¬ (w2.heap.size + 1 = w7.heap.size) := by omega
        have hno1 : ¬ (w2.heap.size = w7.heap.size) := by omega
        have hko1 : w2.heap.size < w7.heap.size := by omega
        have hno2 : ¬ (w2.heap.size = w7.heap.size + 1) := by omega
        have hko2 : w2.heap.size < w7.heap.size + 1 := by omega
        have hna0 : ¬ (w6.heap.size = w7.heap.size) := by omega
        have hna1 : ¬ (w6.heap.size = w7.heap.size + 1) := by omega
        have hka1 : w6.heap.size < w7.heap.size + 1 := by omega
        have hna2 : ¬ (w6.heap.size = w7.heap.size + 1 + 1) := by omega
        have hka2 : w6.heap.size < w7.heap.size + 1 + 1 := by omega
        go_wp2
        go_roundw
        case rel => exact ⟨5, by omega, by go_num, hp_0, hp_1, ho_0, ho_1, ha_0, ha_1, hB⟩
        case measure => simp [intOf]
      · by_cases e7 : k = 5
        · subst e7
          go_wp2_with fail
          refine wp_region_plan (fun w' => w'.cell? ⟨w.heap.size, 0, none⟩ = some (B8 x) ∧ w'.cell? ⟨w.heap.size, 1, none⟩ = some (B8 t) ∧ w'.cell? ⟨w2.heap.size + 1, 0, none⟩ = some (B8 (x ^^^ (b &&& t))) ∧ w'.cell? ⟨w2.heap.size + 1, 1, none⟩ = some (B8 t) ∧ w'.cell? ⟨w6.heap.size, 0, none⟩ = some (B8 A) ∧ w'.cell? ⟨w6.heap.size, 1, none⟩ = some (B8 AT) ∧ Below w.heap.size w w') (by kernel_rfl) (by kernel_rfl) (by kernel_rfl) ?_ ?_
          · (try dsimp only)
            refine ⟨?_, ?_, ?_, ?_, ?_, ?_, ?_⟩ <;> first | (go_simp; done) | (simp [*]; done) | go_grown
          repeat (first
            | (refine Plan.val (v := ?_) ?_ ?_ ?_; rotate_left; (· rfl); (· (intro W hSw; (try dsimp only at hSw); go_simp; all_goals (first | (with_reducible rfl) | (constructor <;> (with_reducible rfl))))); (try simp only [Act.put, List.setIfInBounds_toArray, List.set_cons_zero, List.set_cons_succ]))
            | (refine Plan.no ?_ ?_; (· rfl); (try simp only [Act.put, List.setIfInBounds_toArray, List.set_cons_zero, List.set_cons_succ])))
          refine Plan.done ?_
          intro w7 T
          (try dsimp only at T)
          clear hp_0 hp_1 ho_0 ho_1 ha_0 ha_1 hB hsz hlp hlo hla hnp0 hnp1 hkp1 hnp2 hkp2 hno0 hno1 hko1 hno2 hko2 hna0 hna1 hka1 hna2 hka2
          obtain ⟨hp_0, hp_1, ho_0, ho_1, ha_0, ha_1, hB⟩ := T
          have hsz := hB.size
          have hlp := klt hp_0
          have hlo := klt ho_0
          have hla := klt ha_0
          have hnp0 : ¬ (w.heap.size = w7.heap.size) := by omega
          have hnp1 : ¬ (w.heap.size = w7.heap.size + 1) := by omega
          have hkp1 : w.heap.size < w7.heap.size + 1 := by omega
          have hnp2 : ¬ (w.heap.size = w7.heap.size + 1 + 1) := by omega
          have hkp2 : w.heap.size < w7.heap.size + 1 + 1 := by omega
          have hno0 : ¬ (w2.heap.size + 1 = w7.heap.size) := by omega
          have hno1 : ¬ (w2.heap.size = w7.heap.size) := by omega
          have hko1 : w2.heap.size < w7.heap.size := by omega
          have hno2 : ¬ (w2.heap.size = w7.heap.size + 1) := by omega
          have hko2 : w2.heap.size < w7.heap.size + 1 := by omega
          have hna0 : ¬ (w6.heap.size = w7.heap.size) := by omega
          have hna1 : ¬ (w6.heap.size = w7.heap.size + 1) := by omega
          have hka1 : w6.heap.size < w7.heap.size + 1 := by omega
          have hna2 : ¬ (w6.heap.size = w7.heap.size + 1 + 1) := by omega
          have hka2 : w6.heap.size < w7.heap.size + 1 + 1 := by omega
          go_wp2
          go_roundw
          case rel => exact ⟨6, by omega, by go_num, hp_0, hp_1, ho_0, ho_1, ha_0, ha_1, hB⟩
          case measure => simp [intOf]
        · have b1 : ((k : Int) == 4) = false := by rw [beq_eq_false_iff_ne]; omega
          have b7 : ((k : Int) == 5) = false := by rw [beq_eq_false_iff_ne]; omega
          have b1' : ((k : Int) != 4) = true := by unfold bne; rw [b1]; rfl
          have b7' : ((k : Int) != 5) = true := by unfold bne; rw [b7]; rfl
          have HH := Lib.hid (GK.out k hlt e1 e7)
          go_wp2_with fail
          refine wp_region_plan (fun w' => w'.cell? ⟨w.heap.size, 0, none⟩ = some (B8 x) ∧ w'.cell? ⟨w.heap.size, 1, none⟩ = some (B8 t) ∧ w'.cell? ⟨w2.heap.size + 1, 0, none⟩ = some (B8 (x ^^^ (b &&& t))) ∧ w'.cell? ⟨w2.heap.size + 1, 1, none⟩ = some (B8 t) ∧ w'.cell? ⟨w6.heap.size, 0, none⟩ = some (B8 A) ∧ w'.cell? ⟨w6.heap.size, 1, none⟩ = some (B8 AT) ∧ Below w.heap.size w w') (by kernel_rfl) (by kernel_rfl) (by kernel_rfl) ?_ ?_
          · (try dsimp only)
            refine ⟨?_, ?_, ?_, ?_, ?_, ?_, ?_⟩ <;> first | (go_simp; done) | (simp [*]; done) | go_grown
          repeat (first
            | (refine Plan.val (v := ?_) ?_ ?_ ?_; rotate_left; (· rfl); (· (intro W hSw; (try dsimp only at hSw); go_simp; all_goals (first | (with_reducible rfl) | (constructor <;> (with_reducible rfl))))); (try simp only [Act.put, List.setIfInBounds_toArray, List.set_cons_zero, List.set_cons_succ]))
            | (refine Plan.no ?_ ?_; (· rfl); (try simp only [Act.put, List.setIfInBounds_toArray, List.set_cons_zero, List.set_cons_succ]))
            | (refine Plan.call (v := ?_) (f := ?_) (args := ?_) ?_ ?_ ?_ ?_; rotate_left 3; (· rfl); (· (intro W hSw; (try dsimp only at hSw); go_simp; all_goals (first | (with_reducible rfl) | (constructor <;> (with_reducible rfl))))); (· (intro W hSw; (try dsimp only at hSw); first | (go_at_call 8; ((with_reducible refine (HH.out _).mono ?_); rintro _ wz ⟨rfl, hb⟩; (refine ⟨?_, ?_⟩; (· with_reducible rfl); exact ⟨kc hb hSw.1, kc hb hSw.2.1, kc hb hSw.2.2.1, kc hb hSw.2.2.2.1, kc hb hSw.2.2.2.2.1, kc hb hSw.2.2.2.2.2.1, kb hSw.2.2.2.2.2.2 hb⟩))) | (go_at_call 8; ((with_reducible refine (get_i x t k _).mono ?_); rintro _ wz ⟨rfl, hb⟩; (refine ⟨?_, ?_⟩; (· with_reducible rfl); exact ⟨kc hb hSw.1, kc hb hSw.2.1, kc hb hSw.2.2.1, kc hb hSw.2.2.2.1, kc hb hSw.2.2.2.2.1, kc hb hSw.2.2.2.2.2.1, kb hSw.2.2.2.2.2.2 hb⟩))))); (try simp only [Act.put, List.setIfInBounds_toArray, List.set_cons_zero, List.set_cons_succ])))
          refine Plan.done ?_
          intro w7 T
          (try dsimp only at T)
          clear hp_0 hp_1 ho_0 ho_1 ha_0 ha_1 hB hsz hlp hlo hla hnp0 hnp1 hkp1 hnp2 hkp2 hno0 hno1 hko1 hno2 hko2 hna0 hna1 hka1 hna2 hka2
          obtain ⟨hp_0, hp_1, ho_0, ho_1, ha_0, ha_1, hB⟩ := T
          have hsz := hB.size
          have hlp := klt hp_0
          have hlo := klt ho_0
          have hla := klt ha_0
          have hnp0 : ¬ (w.heap.size = w7.heap.size) := by omega
          have hnp1 : ¬ (w.heap.size = w7.heap.size + 1) := by omega
          have hkp1 : w.heap.size < w7.heap.size + 1 := by omega
          have hnp2 : ¬ (w.heap.size = w7.heap.size + 1 + 1) := by omega
          have hkp2 : w.heap.size < w7.heap.size + 1 + 1 := by omega
          have hno0 : ¬ (w2.heap.size + 1 = w7.heap.size) := by omega
          have hno1 : ¬ (w2.heap.size = w7.heap.size) := by omega
          have hko1 : w2.heap.size < w7.heap.size := by omega
          have hno2 : ¬ (w2.heap.size = w7.heap.size + 1) := by omega
          have hko2 : w2.heap.size < w7.heap.size + 1 := by omega
          have hna0 : ¬ (w6.heap.size = w7.heap.size) := by omega
          have hna1 : ¬ (w6.heap.size = w7.heap.size + 1) := by omega
          have hka1 : w6.heap.size < w7.heap.size + 1 := by omega
          have hna2 : ¬ (w6.heap.size = w7.heap.size + 1 + 1) := by omega
          have hka2 : w6.heap.size < w7.heap.size + 1 + 1 := by omega
          go_wp2
          go_roundw
          case rel => exact ⟨k + 1, by omega, by go_num, hp_0, hp_1, ho_0, ho_1, ha_0, ha_1, hB⟩
          case measure => simp [intOf]; omega
    · have hk8 : k = 8 := by omega
      subst hk8
      go_wp2_with fail
      refine wp_region_plan (fun w' => w'.cell? ⟨w.heap.size, 0, none⟩ = some (B8 x) ∧ w'.cell? ⟨w.heap.size, 1, none⟩ = some (B8 t) ∧ w'.cell? ⟨w2.heap.size + 1, 0, none⟩ = some (B8 (x ^^^ (b &&& t))) ∧ w'.cell? ⟨w2.heap.size + 1, 1, none⟩ = some (B8 t) ∧ w'.cell? ⟨w6.heap.size, 0, none⟩ = some (B8 A) ∧ w'.cell? ⟨w6.heap.size, 1, none⟩ = some (B8 AT) ∧ Below w.heap.size w w') (by kernel_rfl) (by kernel_rfl) (by kernel_rfl) ?_ ?_
      · (try dsimp only)
        refine ⟨?_, ?_, ?_, ?_, ?_, ?_, ?_⟩ <;> first | (go_simp; done) | (simp [*]; done) | go_grown
      repeat (first
        | (refine Plan.val (v := ?_) ?_ ?_ ?_; rotate_left; (· rfl); (· (intro W hSw; (try dsimp only at hSw); go_simp; all_goals (first | (with_reducible rfl) | (constructor <;> (with_reducible rfl))))); (try simp only [Act.put, List.setIfInBounds_toArray, List.set_cons_zero, List.set_cons_succ]))
        | (refine Plan.no ?_ ?_; (· rfl); (try simp only [Act.put, List.setIfInBounds_toArray, List.set_cons_zero, List.set_cons_succ]))
        | (refine Plan.call (v := ?_) (f := ?_) (args := ?_) ?_ ?_ ?_ ?_; rotate_left 3; (· rfl); (· (intro W hSw; (try dsimp only at hSw); go_simp; all_goals (first | (with_reducible rfl) | (constructor <;> (with_reducible rfl))))); (· (intro W hSw; (try dsimp only at hSw); first | (go_at_call 16; ((with_reducible refine (H7.out _).mono ?_); rintro _ wz ⟨rfl, hb⟩; (refine ⟨?_, ?_⟩; (· with_reducible rfl); exact ⟨kc hb hSw.1, kc hb hSw.2.1, kc hb hSw.2.2.1, kc hb hSw.2.2.2.1, kc hb hSw.2.2.2.2.1, kc hb hSw.2.2.2.2.2.1, kb hSw.2.2.2.2.2.2 hb⟩))) | (go_at_call 8; ((with_reducible refine (G5.out _).mono ?_); rintro _ wz ⟨rfl, hb⟩; (refine ⟨?_, ?_⟩; (· with_reducible rfl); exact ⟨kc hb hSw.1, kc hb hSw.2.1, kc hb hSw.2.2.1, kc hb hSw.2.2.2.1, kc hb hSw.2.2.2.2.1, kc hb hSw.2.2.2.2.2.1, kb hSw.2.2.2.2.2.2 hb⟩))) | (go_at_call 8; ((with_reducible refine (G4.out _).mono ?_); rintro _ wz ⟨rfl, hb⟩; (refine ⟨?_, ?_⟩; (· with_reducible rfl); exact ⟨kc hb hSw.1, kc hb hSw.2.1, kc hb hSw.2.2.1, kc hb hSw.2.2.2.1, kc hb hSw.2.2.2.2.1, kc hb hSw.2.2.2.2.2.1, kb hSw.2.2.2.2.2.2 hb⟩))) | (go_at_call 12; ((with_reducible refine (H8.out _).mono ?_); rintro _ wz ⟨rfl, hb⟩; (refine ⟨?_, ?_⟩; (· with_reducible rfl); exact ⟨kc hb hSw.1, kc hb hSw.2.1, kc hb hSw.2.2.1, kc hb hSw.2.2.2.1, kc hb hSw.2.2.2.2.1, kc hb hSw.2.2.2.2.2.1, kb hSw.2.2.2.2.2.2 hb⟩))) | (go_at_call 12; ((with_reducible refine (H9.out _).mono ?_); rintro _ wz ⟨rfl, hb⟩; (refine ⟨?_, ?_⟩; (· with_reducible rfl); exact ⟨kc hb hSw.1, kc hb hSw.2.1, kc hb hSw.2.2.1, kc hb hSw.2.2.2.1, kc hb hSw.2.2.2.2.1, kc hb hSw.2.2.2.2.2.1, kb hSw.2.2.2.2.2.2 hb⟩))) | (go_at_call 22; ((with_reducible refine (H10.out _).mono ?_); rintro _ wz ⟨rfl, hb⟩; (refine ⟨?_, ?_⟩; (· with_reducible rfl); exact ⟨kc hb hSw.1, kc hb hSw.2.1, kc hb hSw.2.2.1, kc hb hSw.2.2.2.1, kc hb hSw.2.2.2.2.1, kc hb hSw.2.2.2.2.2.1, kb hSw.2.2.2.2.2.2 hb⟩))) | (go_at_call 17; ((with_reducible refine (awake_c _).mono ?_); rintro _ wz ⟨rfl, hb⟩; (refine ⟨?_, ?_⟩; (· with_reducible rfl); exact ⟨kc hb hSw.1, kc hb hSw.2.1, kc hb hSw.2.2.1, kc hb hSw.2.2.2.1, kc hb hSw.2.2.2.2.1, kc hb hSw.2.2.2.2.2.1, kb hSw.2.2.2.2.2.2 hb⟩))))); (try simp only [Act.put, List.setIfInBounds_toArray, List.set_cons_zero, List.set_cons_succ])))
      refine Plan.done ?_
      intro wz T
      (try dsimp only at T)
      have hBe := T.2.2.2.2.2.2
      go_wp2
      go_ret
      exact ⟨rfl, hBe⟩
end Go.Proofs.YtdpoonmgailonaaDoor
