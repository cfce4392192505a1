/-
  FlagsWrite returns true: the walk.
-/
import Derived.Test.YtdpoonmgailonaaDoorParse
import Derived.Test.YtdpoonmgailonaaDoorRParse
import Derived.Test.YtdpoonmgailonaaDoorAwake3
set_option linter.unusedSimpArgs false
set_option linter.unusedVariables false
namespace Go.Proofs.YtdpoonmgailonaaDoor
open Go.RowKit

theorem parse_no (s : ByteArray) (h : isReg s = false) (w : World) : Calls Tryd.prog 18 #[.string s] w fun e w' => e = .returned (.tuple #[.agg #[.int .u8 0, .int .u8 0], .int .i64 11]) ∧ Below w.heap.size w w' :=
  (parse_c s w).mono fun _ _ ⟨h1, h2⟩ => ⟨by rw [h1, pV_no h, pT_no h, pE_no h]; rfl, h2⟩
theorem parse_yes (s : ByteArray) (h : isReg s = true) (w : World) : Calls Tryd.prog 18 #[.string s] w fun e w' => e = .returned (.tuple #[TB (accV s 8) (accT s 8), .int .i64 0]) ∧ Below w.heap.size w w' :=
  (parse_c s w).mono fun _ _ ⟨h1, h2⟩ => ⟨by rw [h1, pV_yes h, pT_yes h, pE_yes h], h2⟩
theorem rparse_no (s : ByteArray) (h : isReg s = false) (w : World) : Calls Tryd.prog 19 #[.string s] w fun e w' => e = .returned (.tuple #[.agg #[.int .u8 0, .int .u8 0], .bool false]) ∧ Below w.heap.size w w' :=
  (rparse_c s w).mono fun _ _ ⟨h1, h2⟩ => ⟨by rw [h1, pV_no h, pT_no h, h]; rfl, h2⟩
theorem rparse_yes (s : ByteArray) (h : isReg s = true) (w : World) : Calls Tryd.prog 19 #[.string s] w fun e w' => e = .returned (.tuple #[TB (accV s 8) (accT s 8), .bool true]) ∧ Below w.heap.size w w' :=
  (rparse_c s w).mono fun _ _ ⟨h1, h2⟩ => ⟨by rw [h1, pV_yes h, pT_yes h, h], h2⟩

set_option maxRecDepth 100000 in
set_option maxHeartbeats 4000000 in
theorem write_walk (x t : BitVec 8) (s : ByteArray) (w : World) : Calls Tryd.prog 4 #[TB x t, .string s] w (LawEnd w) := by
  by_cases hs : s.size ≤ 30
  · have hs1 : ((s.size : Nat) : Int) ≤ 30 := by omega
    have hs2 : ¬ (30 < ((s.size : Nat) : Int)) := by omega
    cases hr : isReg s
    · go_enter Tryd.func4, Tryd.ntmps4
      go_wp2_with fail
      ((with_reducible refine (parse_no s hr _).mono ?_); rintro _ w1 ⟨rfl, hb⟩)
      have T : w1.cell? ⟨w.heap.size, 0, none⟩ = some (B8 x) ∧ w1.cell? ⟨w.heap.size, 1, none⟩ = some (B8 t) := by
          refine ⟨?_, ?_⟩ <;> refine kc hb ?_ <;> (go_simp; first | done | rfl)
      have hz := hb.size
      (try simp only [World.size_alloc, World.size_setCell, World.size_drew] at hz)
      have hlp' : w.heap.size < w1.heap.size := by omega
      have hB' : Below w.heap.size w w1 := by
          refine kb ?_ hb
          go_grown
      clear hb hz
      obtain ⟨hp_0, hp_1⟩ := T
      have hlp := hlp'; clear hlp'
      have hnp0 : ¬ (w.heap.size = w1.heap.size) := by omega
      have hnp1 : ¬ (w.heap.size = w1.heap.size + 1) := by omega
      have hkp1 : w.heap.size < w1.heap.size + 1 := by omega
      have hnp2 : ¬ (w.heap.size = w1.heap.size + 1 + 1) := by omega
      have hkp2 : w.heap.size < w1.heap.size + 1 + 1 := by omega
      have hB := hB'; clear hB'
      have hsz := hB.size
      go_wp2_with fail
      ((with_reducible refine (rparse_no s hr _).mono ?_); rintro _ w2 ⟨rfl, hb⟩)
      have T : w2.cell? ⟨w.heap.size, 0, none⟩ = some (B8 x) ∧ w2.cell? ⟨w.heap.size, 1, none⟩ = some (B8 t) ∧ w2.cell? ⟨w1.heap.size, 0, none⟩ = some (.int .u8 0) ∧ w2.cell? ⟨w1.heap.size, 1, none⟩ = some (.int .u8 0) := by
          refine ⟨?_, ?_, ?_, ?_⟩ <;> refine kc hb ?_ <;> (go_simp; first | done | rfl)
      have hz := hb.size
      (try simp only [World.size_alloc, World.size_setCell, World.size_drew] at hz)
      have hlp' : w.heap.size < w2.heap.size := by omega
      have hla' : w1.heap.size < w2.heap.size := by omega
      have hB' : Below w.heap.size w w2 := by
          refine kb ?_ hb
          go_grown
      clear hp_0 hp_1 hlp hnp0 hnp1 hkp1 hnp2 hkp2 hB hsz
      clear hb hz
      obtain ⟨hp_0, hp_1, ha_0, ha_1⟩ := T
      have hlp := hlp'; clear hlp'
      have hla := hla'; clear hla'
      have hnp0 : ¬ (w.heap.size = w2.heap.size) := by omega
      have hnp1 : ¬ (w.heap.size = w2.heap.size + 1) := by omega
      have hkp1 : w.heap.size < w2.heap.size + 1 := by omega
      have hnp2 : ¬ (w.heap.size = w2.heap.size + 1 + 1) := by omega
      have hkp2 : w.heap.size < w2.heap.size + 1 + 1 := by omega
      have hna0 : ¬ (w1.heap.size = w2.heap.size) := by omega
      have hna1 : ¬ (w1.heap.size = w2.heap.size + 1) := by omega
      have hka1 : w1.heap.size < w2.heap.size + 1 := by omega
      have hna2 : ¬ (w1.heap.size = w2.heap.size + 1 + 1) := by omega
      have hka2 : w1.heap.size < w2.heap.size + 1 + 1 := by omega
      have hB := hB'; clear hB'
      have hsz := hB.size
      go_wp2_with fail
      refine wp_region_plan (fun w' => w'.cell? ⟨w.heap.size, 0, none⟩ = some (B8 x) ∧ w'.cell? ⟨w.heap.size, 1, none⟩ = some (B8 t) ∧ w'.cell? ⟨w1.heap.size, 0, none⟩ = some (.int .u8 0) ∧ w'.cell? ⟨w1.heap.size, 1, none⟩ = some (.int .u8 0) ∧ w'.cell? ⟨w2.heap.size, 0, none⟩ = some (.int .u8 0) ∧ w'.cell? ⟨w2.heap.size, 1, none⟩ = some (.int .u8 0) ∧ Below w.heap.size w w') (by kernel_rfl) (by kernel_rfl) (by kernel_rfl) ?_ ?_
      · (try dsimp only)
        refine ⟨?_, ?_, ?_, ?_, ?_, ?_, ?_⟩ <;> first | (go_simp; done) | (simp [*]; done) | go_grown
      repeat (first
        | (refine Plan.val (v := ?_) ?_ ?_ ?_; rotate_left; (· rfl); (· (intro W hSw; (try dsimp only at hSw); go_simp; all_goals (first | (with_reducible rfl) | (constructor <;> (with_reducible rfl))))); (try simp only [Act.put, List.setIfInBounds_toArray, List.set_cons_zero, List.set_cons_succ]))
        | (refine Plan.no ?_ ?_; (· rfl); (try simp only [Act.put, List.setIfInBounds_toArray, List.set_cons_zero, List.set_cons_succ]))
        | (refine Plan.call (v := ?_) (f := ?_) (args := ?_) ?_ ?_ ?_ ?_; rotate_left 3; (· rfl); (· (intro W hSw; (try dsimp only at hSw); go_simp; all_goals (first | (with_reducible rfl) | (constructor <;> (with_reducible rfl))))); (· (intro W hSw; (try dsimp only at hSw); first | (go_at_call 20; ((with_reducible refine (text_c x t _).mono ?_); rintro _ wz ⟨rfl, hb⟩; (refine ⟨?_, ?_⟩; (· with_reducible rfl); exact ⟨kc hb hSw.1, kc hb hSw.2.1, kc hb hSw.2.2.1, kc hb hSw.2.2.2.1, kc hb hSw.2.2.2.2.1, kc hb hSw.2.2.2.2.2.1, kb hSw.2.2.2.2.2.2 hb⟩))) | (go_at_call 21; ((with_reducible refine (rtext_c x t _).mono ?_); rintro _ wz ⟨rfl, hb⟩; (refine ⟨?_, ?_⟩; (· with_reducible rfl); exact ⟨kc hb hSw.1, kc hb hSw.2.1, kc hb hSw.2.2.1, kc hb hSw.2.2.2.1, kc hb hSw.2.2.2.2.1, kc hb hSw.2.2.2.2.2.1, kb hSw.2.2.2.2.2.2 hb⟩))))); (try simp only [Act.put, List.setIfInBounds_toArray, List.set_cons_zero, List.set_cons_succ])))
      refine Plan.done ?_
      intro w3 T
      (try dsimp only at T)
      clear hp_0 hp_1 ha_0 ha_1 hlp hla hnp0 hnp1 hkp1 hnp2 hkp2 hna0 hna1 hka1 hna2 hka2 hB hsz
      obtain ⟨hp_0, hp_1, ha_0, ha_1, hb_0, hb_1, hB⟩ := T
      have hsz := hB.size
      have hlp := klt hp_0
      have hla := klt ha_0
      have hlb := klt hb_0
      have hnp0 : ¬ (w.heap.size = w3.heap.size) := by omega
      have hnp1 : ¬ (w.heap.size = w3.heap.size + 1) := by omega
      have hkp1 : w.heap.size < w3.heap.size + 1 := by omega
      have hnp2 : ¬ (w.heap.size = w3.heap.size + 1 + 1) := by omega
      have hkp2 : w.heap.size < w3.heap.size + 1 + 1 := by omega
      have hna0 : ¬ (w1.heap.size = w3.heap.size) := by omega
      have hna1 : ¬ (w1.heap.size = w3.heap.size + 1) := by omega
      have hka1 : w1.heap.size < w3.heap.size + 1 := by omega
      have hna2 : ¬ (w1.heap.size = w3.heap.size + 1 + 1) := by omega
      have hka2 : w1.heap.size < w3.heap.size + 1 + 1 := by omega
      have hnb0 : ¬ (w2.heap.size = w3.heap.size) := by omega
      have hnb1 : ¬ (w2.heap.size = w3.heap.size + 1) := by omega
      have hkb1 : w2.heap.size < w3.heap.size + 1 := by omega
      have hnb2 : ¬ (w2.heap.size = w3.heap.size + 1 + 1) := by omega
      have hkb2 : w2.heap.size < w3.heap.size + 1 + 1 := by omega
      go_wp2_with fail
      ((with_reducible refine (awake_c _).mono ?_); rintro _ w4 ⟨rfl, hb⟩)
      have hz := hb.size
      (try simp only [World.size_alloc, World.size_setCell, World.size_drew] at hz)
      have hB' : Below w.heap.size w w4 := by
          refine kb ?_ hb
          go_grown
      clear hp_0 hp_1 ha_0 ha_1 hb_0 hb_1 hB hsz hlp hla hlb hnp0 hnp1 hkp1 hnp2 hkp2 hna0 hna1 hka1 hna2 hka2 hnb0 hnb1 hkb1 hnb2 hkb2
      clear hb hz
      have hB := hB'; clear hB'
      have hsz := hB.size
      go_wp2
      go_ret
      exact ⟨rfl, hB⟩
    · go_enter Tryd.func4, Tryd.ntmps4
      go_wp2_with fail
      ((with_reducible refine (parse_yes s hr _).mono ?_); rintro _ w1 ⟨rfl, hb⟩)
      have T : w1.cell? ⟨w.heap.size, 0, none⟩ = some (B8 x) ∧ w1.cell? ⟨w.heap.size, 1, none⟩ = some (B8 t) := by
          refine ⟨?_, ?_⟩ <;> refine kc hb ?_ <;> (go_simp; first | done | rfl)
      have hz := hb.size
      (try simp only [World.size_alloc, World.size_setCell, World.size_drew] at hz)
      have hlp' : w.heap.size < w1.heap.size := by omega
      have hB' : Below w.heap.size w w1 := by
          refine kb ?_ hb
          go_grown
      clear hb hz
      obtain ⟨hp_0, hp_1⟩ := T
      have hlp := hlp'; clear hlp'
      have hnp0 : ¬ (w.heap.size = w1.heap.size) := by omega
      have hnp1 : ¬ (w.heap.size = w1.heap.size + 1) := by omega
      have hkp1 : w.heap.size < w1.heap.size + 1 := by omega
      have hnp2 : ¬ (w.heap.size = w1.heap.size + 1 + 1) := by omega
      have hkp2 : w.heap.size < w1.heap.size + 1 + 1 := by omega
      have hB := hB'; clear hB'
      have hsz := hB.size
      go_wp2_with fail
      ((with_reducible refine (rparse_yes s hr _).mono ?_); rintro _ w2 ⟨rfl, hb⟩)
      have T : w2.cell? ⟨w.heap.size, 0, none⟩ = some (B8 x) ∧ w2.cell? ⟨w.heap.size, 1, none⟩ = some (B8 t) ∧ w2.cell? ⟨w1.heap.size, 0, none⟩ = some (B8 (accV s 8)) ∧ w2.cell? ⟨w1.heap.size, 1, none⟩ = some (B8 (accT s 8)) := by
          refine ⟨?_, ?_, ?_, ?_⟩ <;> refine kc hb ?_ <;> (go_simp; first | done | rfl)
      have hz := hb.size
      (try simp only [World.size_alloc, World.size_setCell, World.size_drew] at hz)
      have hlp' : w.heap.size < w2.heap.size := by omega
      have hla1' : w1.heap.size < w2.heap.size := by omega
      have hB' : Below w.heap.size w w2 := by
          refine kb ?_ hb
          go_grown
      clear hp_0 hp_1 hlp hnp0 hnp1 hkp1 hnp2 hkp2 hB hsz
      clear hb hz
      obtain ⟨hp_0, hp_1, ha1_0, ha1_1⟩ := T
      have hlp := hlp'; clear hlp'
      have hla1 := hla1'; clear hla1'
      have hnp0 : ¬ (w.heap.size = w2.heap.size) := by omega
      have hnp1 : ¬ (w.heap.size = w2.heap.size + 1) := by omega
      have hkp1 : w.heap.size < w2.heap.size + 1 := by omega
      have hnp2 : ¬ (w.heap.size = w2.heap.size + 1 + 1) := by omega
      have hkp2 : w.heap.size < w2.heap.size + 1 + 1 := by omega
      have hna10 : ¬ (w1.heap.size = w2.heap.size) := by omega
      have hna11 : ¬ (w1.heap.size = w2.heap.size + 1) := by omega
      have hka11 : w1.heap.size < w2.heap.size + 1 := by omega
      have hna12 : ¬ (w1.heap.size = w2.heap.size + 1 + 1) := by omega
      have hka12 : w1.heap.size < w2.heap.size + 1 + 1 := by omega
      have hB := hB'; clear hB'
      have hsz := hB.size
      go_wp2_with fail
      refine wp_region_plan (fun w' => w'.cell? ⟨w.heap.size, 0, none⟩ = some (B8 x) ∧ w'.cell? ⟨w.heap.size, 1, none⟩ = some (B8 t) ∧ w'.cell? ⟨w1.heap.size, 0, none⟩ = some (B8 (accV s 8)) ∧ w'.cell? ⟨w1.heap.size, 1, none⟩ = some (B8 (accT s 8)) ∧ w'.cell? ⟨w2.heap.size, 0, none⟩ = some (B8 (accV s 8)) ∧ w'.cell? ⟨w2.heap.size, 1, none⟩ = some (B8 (accT s 8)) ∧ Below w.heap.size w w') (by kernel_rfl) (by kernel_rfl) (by kernel_rfl) ?_ ?_
      · (try dsimp only)
        refine ⟨?_, ?_, ?_, ?_, ?_, ?_, ?_⟩ <;> first | (go_simp; done) | (simp [*]; done) | go_grown
      repeat (first
        | (refine Plan.val (v := ?_) ?_ ?_ ?_; rotate_left; (· rfl); (· (intro W hSw; (try dsimp only at hSw); go_simp; all_goals (first | (with_reducible rfl) | (constructor <;> (with_reducible rfl))))); (try simp only [Act.put, List.setIfInBounds_toArray, List.set_cons_zero, List.set_cons_succ]))
        | (refine Plan.no ?_ ?_; (· rfl); (try simp only [Act.put, List.setIfInBounds_toArray, List.set_cons_zero, List.set_cons_succ]))
        | (refine Plan.call (v := ?_) (f := ?_) (args := ?_) ?_ ?_ ?_ ?_; rotate_left 3; (· rfl); (· (intro W hSw; (try dsimp only at hSw); go_simp; all_goals (first | (with_reducible rfl) | (constructor <;> (with_reducible rfl))))); (· (intro W hSw; (try dsimp only at hSw); first | (go_at_call 20; ((with_reducible refine (text_c x t _).mono ?_); rintro _ wz ⟨rfl, hb⟩; (refine ⟨?_, ?_⟩; (· with_reducible rfl); exact ⟨kc hb hSw.1, kc hb hSw.2.1, kc hb hSw.2.2.1, kc hb hSw.2.2.2.1, kc hb hSw.2.2.2.2.1, kc hb hSw.2.2.2.2.2.1, kb hSw.2.2.2.2.2.2 hb⟩))) | (go_at_call 21; ((with_reducible refine (rtext_c x t _).mono ?_); rintro _ wz ⟨rfl, hb⟩; (refine ⟨?_, ?_⟩; (· with_reducible rfl); exact ⟨kc hb hSw.1, kc hb hSw.2.1, kc hb hSw.2.2.1, kc hb hSw.2.2.2.1, kc hb hSw.2.2.2.2.1, kc hb hSw.2.2.2.2.2.1, kb hSw.2.2.2.2.2.2 hb⟩))))); (try simp only [Act.put, List.setIfInBounds_toArray, List.set_cons_zero, List.set_cons_succ])))
      refine Plan.done ?_
      intro w3 T
      (try dsimp only at T)
      clear hp_0 hp_1 ha1_0 ha1_1 hlp hla1 hnp0 hnp1 hkp1 hnp2 hkp2 hna10 hna11 hka11 hna12 hka12 hB hsz
      obtain ⟨hp_0, hp_1, ha1_0, ha1_1, hb1_0, hb1_1, hB⟩ := T
      have hsz := hB.size
      have hlp := klt hp_0
      have hla1 := klt ha1_0
      have hlb1 := klt hb1_0
      have hnp0 : ¬ (w.heap.size = w3.heap.size) := by omega
      have hnp1 : ¬ (w.heap.size = w3.heap.size + 1) := by omega
      have hkp1 : w.heap.size < w3.heap.size + 1 := by omega
      have hnp2 : ¬ (w.heap.size = w3.heap.size + 1 + 1) := by omega
      have hkp2 : w.heap.size < w3.heap.size + 1 + 1 := by omega
      have hna10 : ¬ (w1.heap.size = w3.heap.size) := by omega
      have hna11 : ¬ (w1.heap.size = w3.heap.size + 1) := by omega
      have hka11 : w1.heap.size < w3.heap.size + 1 := by omega
      have hna12 : ¬ (w1.heap.size = w3.heap.size + 1 + 1) := by omega
      have hka12 : w1.heap.size < w3.heap.size + 1 + 1 := by omega
      have hnb10 : ¬ (w2.heap.size = w3.heap.size) := by omega
      have hnb11 : ¬ (w2.heap.size = w3.heap.size + 1) := by omega
      have hkb11 : w2.heap.size < w3.heap.size + 1 := by omega
      have hnb12 : ¬ (w2.heap.size = w3.heap.size + 1 + 1) := by omega
      have hkb12 : w2.heap.size < w3.heap.size + 1 + 1 := by omega
      go_wp2_with fail
      ((with_reducible refine (awake_c _).mono ?_); rintro _ w4 ⟨rfl, hb⟩)
      have hz := hb.size
      (try simp only [World.size_alloc, World.size_setCell, World.size_drew] at hz)
      have hB' : Below w.heap.size w w4 := by
          refine kb ?_ hb
          go_grown
      clear hp_0 hp_1 ha1_0 ha1_1 hb1_0 hb1_1 hB hsz hlp hla1 hlb1 hnp0 hnp1 hkp1 hnp2 hkp2 hna10 hna11 hka11 hna12 hka12 hnb10 hnb11 hkb11 hnb12 hkb12
      clear hb hz
      have hB := hB'; clear hB'
      have hsz := hB.size
      go_wp2
      go_ret
      exact ⟨rfl, hB⟩
  · have hs2 : 30 < ((s.size : Nat) : Int) := by omega
    go_enter Tryd.func4, Tryd.ntmps4
    go_wp2_with fail
    ((with_reducible refine (awake_c _).mono ?_); rintro _ w1 ⟨rfl, hb⟩)
    have hz := hb.size
    (try simp only [World.size_alloc, World.size_setCell, World.size_drew] at hz)
    have hB' : Below w.heap.size w w1 := by
        refine kb ?_ hb
        go_grown
    clear hb hz
    have hB := hB'; clear hB'
    have hsz := hB.size
    go_wp2
    go_ret
    exact ⟨rfl, hB⟩
end Go.Proofs.YtdpoonmgailonaaDoor
