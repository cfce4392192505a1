/-
  TaintJoins returns true: the walk.
-/
import Derived.Test.YtbbiegbfoimcaaaBothAnd
import Derived.Test.YtbbiegbfoimcaaaBothOr
import Derived.Test.YtbbiegbfoimcaaaBothXor
import Derived.Test.YtbbiegbfoimcaaaGates
import Derived.Test.YtbbiegbfoimcaaaAwake
set_option linter.unusedSimpArgs false
set_option linter.unusedVariables false
namespace Go.Proofs.Ytbbiegbfoimcaaa
open Go.RowKit

theorem ref_and (x t y s : BitVec 8) (w : World) : Calls Try.prog 11 #[TB x t, TB y s, .agg #[.int .i64 0, .int .i64 0, .int .i64 0, .int .i64 1]] w
    fun e w' => e = .returned (TB (x &&& y) (((x &&& ~~~t) &&& (y &&& ~~~s)) ^^^ ((x ||| t) &&& (y ||| s)))) ∧ Below w.heap.size w w' :=
  (both_and x t y s w).mono fun _ _ ⟨h1, h2⟩ => ⟨by rw [h1, andV, andS], h2⟩
theorem ref_or (x t y s : BitVec 8) (w : World) : Calls Try.prog 11 #[TB x t, TB y s, .agg #[.int .i64 0, .int .i64 1, .int .i64 1, .int .i64 1]] w
    fun e w' => e = .returned (TB (x ||| y) (((x &&& ~~~t) ||| (y &&& ~~~s)) ^^^ ((x ||| t) ||| (y ||| s)))) ∧ Below w.heap.size w w' :=
  (both_or x t y s w).mono fun _ _ ⟨h1, h2⟩ => ⟨by rw [h1, orV, orS], h2⟩
theorem ref_xor (x t y s : BitVec 8) (w : World) : Calls Try.prog 11 #[TB x t, TB y s, .agg #[.int .i64 0, .int .i64 1, .int .i64 1, .int .i64 0]] w
    fun e w' => e = .returned (TB (x ^^^ y) (((x &&& ~~~t) ^^^ (x ||| t)) ||| ((y &&& ~~~s) ^^^ (y ||| s)))) ∧ Below w.heap.size w w' :=
  (both_xor x t y s w).mono fun _ _ ⟨h1, h2⟩ => ⟨by rw [h1, xorV, xorS], h2⟩

set_option maxRecDepth 100000 in
set_option maxHeartbeats 4000000 in
theorem joins_walk (x t y s : BitVec 8) (w : World) : Calls Try.prog 3 #[TB x t, TB y s] w (LawEnd w) := by
  go_enter Try.func3, Try.ntmps3
  go_wp2_with fail
  ((with_reducible refine (ref_and x t y s _).mono ?_); rintro _ w1 ⟨rfl, hb⟩)
  have T : w1.cell? ⟨w.heap.size, 0, none⟩ = some (B8 x) ∧ w1.cell? ⟨w.heap.size, 1, none⟩ = some (B8 t) ∧ w1.cell? ⟨w.heap.size + 1, 0, none⟩ = some (B8 y) ∧ w1.cell? ⟨w.heap.size + 1, 1, none⟩ = some (B8 s) := by
      refine ⟨?_, ?_, ?_, ?_⟩ <;> refine kc hb ?_ <;> (go_simp; first | done | rfl)
  have hz := hb.size
  (try simp only [World.size_alloc, World.size_setCell, World.size_drew] at hz)
  have hla' : w.heap.size < w1.heap.size := by omega
  have hlb' : w.heap.size + 1 < w1.heap.size := by omega
  have hB' : Below w.heap.size w w1 := by
      refine kb ?_ hb
      go_grown
  clear hb hz
  obtain ⟨ha_0, ha_1, hb_0, hb_1⟩ := T
  have hla := hla'; clear hla'
  have hlb := hlb'; clear hlb'
  have hna0 : ¬ (w.heap.size = w1.heap.size) := by omega
  have hna1 : ¬ (w.heap.size = w1.heap.size + 1) := by omega
  have hka1 : w.heap.size < w1.heap.size + 1 := by omega
  have hna2 : ¬ (w.heap.size = w1.heap.size + 1 + 1) := by omega
  have hka2 : w.heap.size < w1.heap.size + 1 + 1 := by omega
  have hnb0 : ¬ (w.heap.size + 1 = w1.heap.size) := by omega
  have hkb1 : w.heap.size < w1.heap.size := by omega
  have hB := hB'; clear hB'
  have hsz := hB.size
  go_wp2_with fail
  ((with_reducible refine (ref_or x t y s _).mono ?_); rintro _ w2 ⟨rfl, hb⟩)
  have T : w2.cell? ⟨w.heap.size, 0, none⟩ = some (B8 x) ∧ w2.cell? ⟨w.heap.size, 1, none⟩ = some (B8 t) ∧ w2.cell? ⟨w.heap.size + 1, 0, none⟩ = some (B8 y) ∧ w2.cell? ⟨w.heap.size + 1, 1, none⟩ = some (B8 s) ∧ w2.cell? ⟨w1.heap.size, 0, none⟩ = some (B8 (x &&& y)) ∧ w2.cell? ⟨w1.heap.size, 1, none⟩ = some (B8 (((x &&& ~~~t) &&& (y &&& ~~~s)) ^^^ ((x ||| t) &&& (y ||| s)))) := by
      refine ⟨?_, ?_, ?_, ?_, ?_, ?_⟩ <;> refine kc hb ?_ <;> (go_simp; first | done | rfl)
  have hz := hb.size
  (try simp only [World.size_alloc, World.size_setCell, World.size_drew] at hz)
  have hla' : w.heap.size < w2.heap.size := by omega
  have hlb' : w.heap.size + 1 < w2.heap.size := by omega
  have hlp' : w1.heap.size < w2.heap.size := by omega
  have hB' : Below w.heap.size w w2 := by
      refine kb ?_ hb
      go_grown
  clear ha_0 ha_1 hb_0 hb_1 hla hlb hna0 hna1 hka1 hna2 hka2 hnb0 hkb1 hB hsz
  clear hb hz
  obtain ⟨ha_0, ha_1, hb_0, hb_1, hp_0, hp_1⟩ := T
  have hla := hla'; clear hla'
  have hlb := hlb'; clear hlb'
  have hlp := hlp'; clear hlp'
  have hna0 : ¬ (w.heap.size = w2.heap.size) := by omega
  have hna1 : ¬ (w.heap.size = w2.heap.size + 1) := by omega
  have hka1 : w.heap.size < w2.heap.size + 1 := by omega
  have hna2 : ¬ (w.heap.size = w2.heap.size + 1 + 1) := by omega
  have hka2 : w.heap.size < w2.heap.size + 1 + 1 := by omega
  have hnb0 : ¬ (w.heap.size + 1 = w2.heap.size) := by omega
  have hkb1 : w.heap.size < w2.heap.size := by omega
  have hnp0 : ¬ (w1.heap.size = w2.heap.size) := by omega
  have hnp1 : ¬ (w1.heap.size = w2.heap.size + 1) := by omega
  have hkp1 : w1.heap.size < w2.heap.size + 1 := by omega
  have hnp2 : ¬ (w1.heap.size = w2.heap.size + 1 + 1) := by omega
  have hkp2 : w1.heap.size < w2.heap.size + 1 + 1 := by omega
  have hB := hB'; clear hB'
  have hsz := hB.size
  go_wp2_with fail
  ((with_reducible refine (ref_xor x t y s _).mono ?_); rintro _ w3 ⟨rfl, hb⟩)
  have T : w3.cell? ⟨w.heap.size, 0, none⟩ = some (B8 x) ∧ w3.cell? ⟨w.heap.size, 1, none⟩ = some (B8 t) ∧ w3.cell? ⟨w.heap.size + 1, 0, none⟩ = some (B8 y) ∧ w3.cell? ⟨w.heap.size + 1, 1, none⟩ = some (B8 s) ∧ w3.cell? ⟨w1.heap.size, 0, none⟩ = some (B8 (x &&& y)) ∧ w3.cell? ⟨w1.heap.size, 1, none⟩ = some (B8 (((x &&& ~~~t) &&& (y &&& ~~~s)) ^^^ ((x ||| t) &&& (y ||| s)))) ∧ w3.cell? ⟨w2.heap.size, 0, none⟩ = some (B8 (x ||| y)) ∧ w3.cell? ⟨w2.heap.size, 1, none⟩ = some (B8 (((x &&& ~~~t) ||| (y &&& ~~~s)) ^^^ ((x ||| t) ||| (y ||| s)))) := by
      refine ⟨?_, ?_, ?_, ?_, ?_, ?_, ?_, ?_⟩ <;> refine kc hb ?_ <;> (go_simp; first | done | rfl)
  have hz := hb.size
  (try simp only [World.size_alloc, World.size_setCell, World.size_drew] at hz)
  have hla' : w.heap.size < w3.heap.size := by omega
  have hlb' : w.heap.size + 1 < w3.heap.size := by omega
  have hlp' : w1.heap.size < w3.heap.size := by omega
  have hlq' : w2.heap.size < w3.heap.size := by omega
  have hB' : Below w.heap.size w w3 := by
      refine kb ?_ hb
      go_grown
  clear ha_0 ha_1 hb_0 hb_1 hp_0 hp_1 hla hlb hlp hna0 hna1 hka1 hna2 hka2 hnb0 hkb1 hnp0 hnp1 hkp1 hnp2 hkp2 hB hsz
  clear hb hz
  obtain ⟨ha_0, ha_1, hb_0, hb_1, hp_0, hp_1, hq_0, hq_1⟩ := T
  have hla := hla'; clear hla'
  have hlb := hlb'; clear hlb'
  have hlp := hlp'; clear hlp'
  have hlq := hlq'; clear hlq'
  have hna0 : ¬ (w.heap.size = w3.heap.size) := by omega
  have hna1 : ¬ (w.heap.size = w3.heap.size + 1) := by omega
  have hka1 : w.heap.size < w3.heap.size + 1 := by omega
  have hna2 : ¬ (w.heap.size = w3.heap.size + 1 + 1) := by omega
  have hka2 : w.heap.size < w3.heap.size + 1 + 1 := by omega
  have hnb0 : ¬ (w.heap.size + 1 = w3.heap.size) := by omega
  have hkb1 : w.heap.size < w3.heap.size := by omega
  have hnp0 : ¬ (w1.heap.size = w3.heap.size) := by omega
  have hnp1 : ¬ (w1.heap.size = w3.heap.size + 1) := by omega
  have hkp1 : w1.heap.size < w3.heap.size + 1 := by omega
  have hnp2 : ¬ (w1.heap.size = w3.heap.size + 1 + 1) := by omega
  have hkp2 : w1.heap.size < w3.heap.size + 1 + 1 := by omega
  have hnq0 : ¬ (w2.heap.size = w3.heap.size) := by omega
  have hnq1 : ¬ (w2.heap.size = w3.heap.size + 1) := by omega
  have hkq1 : w2.heap.size < w3.heap.size + 1 := by omega
  have hnq2 : ¬ (w2.heap.size = w3.heap.size + 1 + 1) := by omega
  have hkq2 : w2.heap.size < w3.heap.size + 1 + 1 := by omega
  have hB := hB'; clear hB'
  have hsz := hB.size
  go_wp2_with fail
  refine wp_region_plan (fun w' => w'.cell? ⟨w.heap.size, 0, none⟩ = some (B8 x) ∧ w'.cell? ⟨w.heap.size, 1, none⟩ = some (B8 t) ∧ w'.cell? ⟨w.heap.size + 1, 0, none⟩ = some (B8 y) ∧ w'.cell? ⟨w.heap.size + 1, 1, none⟩ = some (B8 s) ∧ w'.cell? ⟨w1.heap.size, 0, none⟩ = some (B8 (x &&& y)) ∧ w'.cell? ⟨w1.heap.size, 1, none⟩ = some (B8 (((x &&& ~~~t) &&& (y &&& ~~~s)) ^^^ ((x ||| t) &&& (y ||| s)))) ∧ w'.cell? ⟨w2.heap.size, 0, none⟩ = some (B8 (x ||| y)) ∧ w'.cell? ⟨w2.heap.size, 1, none⟩ = some (B8 (((x &&& ~~~t) ||| (y &&& ~~~s)) ^^^ ((x ||| t) ||| (y ||| s)))) ∧ w'.cell? ⟨w3.heap.size, 0, none⟩ = some (B8 (x ^^^ y)) ∧ w'.cell? ⟨w3.heap.size, 1, none⟩ = some (B8 (((x &&& ~~~t) ^^^ (x ||| t)) ||| ((y &&& ~~~s) ^^^ (y ||| s)))) ∧ Below w.heap.size w w') (by kernel_rfl) (by kernel_rfl) (by kernel_rfl) ?_ ?_
  · (try dsimp only)
    refine ⟨?_, ?_, ?_, ?_, ?_, ?_, ?_, ?_, ?_, ?_, ?_⟩ <;> first | (go_simp; done) | (simp [*]; done) | go_grown
  repeat (first
    | (refine Plan.val (v := ?_) ?_ ?_ ?_; rotate_left; (· rfl); (· (intro W hSw; (try dsimp only at hSw); go_simp; all_goals (first | (with_reducible rfl) | (constructor <;> (with_reducible rfl))))); (try simp only [Act.put, List.setIfInBounds_toArray, List.set_cons_zero, List.set_cons_succ]))
    | (refine Plan.no ?_ ?_; (· rfl); (try simp only [Act.put, List.setIfInBounds_toArray, List.set_cons_zero, List.set_cons_succ]))
    | (refine Plan.call (v := ?_) (f := ?_) (args := ?_) ?_ ?_ ?_ ?_; rotate_left 3; (· rfl); (· (intro W hSw; (try dsimp only at hSw); go_simp; all_goals (first | (with_reducible rfl) | (constructor <;> (with_reducible rfl))))); (· (intro W hSw; (try dsimp only at hSw); first | (go_at_call 12; ((with_reducible refine (and_d _ _ _ _ _).mono ?_); rintro _ wz ⟨rfl, hb⟩; (refine ⟨?_, ?_⟩; (· with_reducible rfl); exact ⟨kc hb hSw.1, kc hb hSw.2.1, kc hb hSw.2.2.1, kc hb hSw.2.2.2.1, kc hb hSw.2.2.2.2.1, kc hb hSw.2.2.2.2.2.1, kc hb hSw.2.2.2.2.2.2.1, kc hb hSw.2.2.2.2.2.2.2.1, kc hb hSw.2.2.2.2.2.2.2.2.1, kc hb hSw.2.2.2.2.2.2.2.2.2.1, kb hSw.2.2.2.2.2.2.2.2.2.2 hb⟩))) | (go_at_call 13; ((with_reducible refine (or_d _ _ _ _ _).mono ?_); rintro _ wz ⟨rfl, hb⟩; (refine ⟨?_, ?_⟩; (· with_reducible rfl); exact ⟨kc hb hSw.1, kc hb hSw.2.1, kc hb hSw.2.2.1, kc hb hSw.2.2.2.1, kc hb hSw.2.2.2.2.1, kc hb hSw.2.2.2.2.2.1, kc hb hSw.2.2.2.2.2.2.1, kc hb hSw.2.2.2.2.2.2.2.1, kc hb hSw.2.2.2.2.2.2.2.2.1, kc hb hSw.2.2.2.2.2.2.2.2.2.1, kb hSw.2.2.2.2.2.2.2.2.2.2 hb⟩))) | (go_at_call 14; ((with_reducible refine (xor_d _ _ _ _ _).mono ?_); rintro _ wz ⟨rfl, hb⟩; (refine ⟨?_, ?_⟩; (· with_reducible rfl); exact ⟨kc hb hSw.1, kc hb hSw.2.1, kc hb hSw.2.2.1, kc hb hSw.2.2.2.1, kc hb hSw.2.2.2.2.1, kc hb hSw.2.2.2.2.2.1, kc hb hSw.2.2.2.2.2.2.1, kc hb hSw.2.2.2.2.2.2.2.1, kc hb hSw.2.2.2.2.2.2.2.2.1, kc hb hSw.2.2.2.2.2.2.2.2.2.1, kb hSw.2.2.2.2.2.2.2.2.2.2 hb⟩))) | (go_at_call 15; ((with_reducible refine (awake_c _).mono ?_); rintro _ wz ⟨rfl, hb⟩; (refine ⟨?_, ?_⟩; (· with_reducible rfl); exact ⟨kc hb hSw.1, kc hb hSw.2.1, kc hb hSw.2.2.1, kc hb hSw.2.2.2.1, kc hb hSw.2.2.2.2.1, kc hb hSw.2.2.2.2.2.1, kc hb hSw.2.2.2.2.2.2.1, kc hb hSw.2.2.2.2.2.2.2.1, kc hb hSw.2.2.2.2.2.2.2.2.1, kc hb hSw.2.2.2.2.2.2.2.2.2.1, kb hSw.2.2.2.2.2.2.2.2.2.2 hb⟩))))); (try simp only [Act.put, List.setIfInBounds_toArray, List.set_cons_zero, List.set_cons_succ])))
  refine Plan.done ?_
  intro wz T
  (try dsimp only at T)
  have hBe := T.2.2.2.2.2.2.2.2.2.2
  go_wp2
  go_ret
  exact ⟨rfl, hBe⟩
end Go.Proofs.Ytbbiegbfoimcaaa
