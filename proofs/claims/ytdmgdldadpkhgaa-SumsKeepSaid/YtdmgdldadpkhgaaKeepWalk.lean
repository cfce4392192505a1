/-
  SumsKeep returns true: the walk.
-/
import Derived.Test.YtdmgdldadpkhgaaLaws
import Derived.Test.YtdmgdldadpkhgaaAwake2
set_option linter.unusedSimpArgs false
set_option linter.unusedVariables false
namespace Go.Proofs.Ytdmgdldadpkhgaa
open Go.RowKit

theorem add_o (x t y s p q : BitVec 8) (c ct d dt : Bool) (r z : BitVec 8) (w : World) : Calls Try.prog 12 #[TB (oth x t p) t, TB (oth y s q) s, TBit (obit c ct r) ct, TBit (obit d dt z) dt] w fun e w' =>
    e = .returned (VS (addR (oth x t p) (oth y s q) (obit c ct r) (obit d dt z)) (hidT (secT t s ct) (addR x y c d).a d dt)) ∧ Below w.heap.size w w' :=
  (add_n _ _ _ _ _ _ _ _ w).mono fun _ _ ⟨h1, h2⟩ => ⟨h1.trans (vs_eq rfl (keep_add x t y s p q c ct d dt r z).1), h2⟩
theorem sub_o (x t y s p q : BitVec 8) (c ct d dt : Bool) (r z : BitVec 8) (w : World) : Calls Try.prog 15 #[TB (oth x t p) t, TB (oth y s q) s, TBit (obit c ct r) ct, TBit (obit d dt z) dt] w fun e w' =>
    e = .returned (VS (subR (oth x t p) (oth y s q) (obit c ct r) (obit d dt z)) (hidT (secT t s ct) (subR x y c d).a d dt)) ∧ Below w.heap.size w w' :=
  (sub_n _ _ _ _ _ _ _ _ w).mono fun _ _ ⟨h1, h2⟩ => ⟨h1.trans (vs_eq rfl (keep_sub x t y s p q c ct d dt r z).1), h2⟩
theorem comp_o (x t y s p q : BitVec 8) (w : World) : Calls Try.prog 17 #[TB (oth x t p) t, TB (oth y s q) s] w fun e w' =>
    e = .returned (VS (cmpV (oth x t p) (oth y s q)) (cmpT t s (cmpV x y).a)) ∧ Below w.heap.size w w' :=
  (comp_n _ _ _ _ w).mono fun _ _ ⟨h1, h2⟩ => ⟨h1.trans (vs_eq rfl (keep_comp x t y s p q).1), h2⟩

set_option maxRecDepth 100000 in
set_option maxHeartbeats 8000000 in
theorem keep_walk (x t y s : BitVec 8) (c ct d dt : Bool) (p q r z : BitVec 8) (w : World) :
    Calls Try.prog 6 #[.agg #[B8 x, B8 t, B8 y, B8 s, .bool c, .bool ct, .bool d, .bool dt, B8 p, B8 q, B8 r, B8 z]] w (LawEnd w) := by
  go_enter Try.func6, Try.ntmps6
  go_wp2_with fail
  ((with_reducible refine (other_c x t p _).mono ?_); rintro _ w1 ⟨rfl, hb⟩)
  have T : w1.cell? ⟨w.heap.size, 0, none⟩ = some (B8 x) ∧ w1.cell? ⟨w.heap.size, 1, none⟩ = some (B8 t) ∧ w1.cell? ⟨w.heap.size, 2, none⟩ = some (B8 y) ∧ w1.cell? ⟨w.heap.size, 3, none⟩ = some (B8 s) ∧ w1.cell? ⟨w.heap.size, 4, none⟩ = some (.bool c) ∧ w1.cell? ⟨w.heap.size, 5, none⟩ = some (.bool ct) ∧ w1.cell? ⟨w.heap.size, 6, none⟩ = some (.bool d) ∧ w1.cell? ⟨w.heap.size, 7, none⟩ = some (.bool dt) ∧ w1.cell? ⟨w.heap.size, 8, none⟩ = some (B8 p) ∧ w1.cell? ⟨w.heap.size, 9, none⟩ = some (B8 q) ∧ w1.cell? ⟨w.heap.size, 10, none⟩ = some (B8 r) ∧ w1.cell? ⟨w.heap.size, 11, none⟩ = some (B8 z) := by
      refine ⟨?_, ?_, ?_, ?_, ?_, ?_, ?_, ?_, ?_, ?_, ?_, ?_⟩ <;> refine kc hb ?_ <;> (go_simp; first | done | rfl)
  have hz := hb.size
  (try simp only [World.size_alloc, World.size_setCell, World.size_drew] at hz)
  have hlf' : w.heap.size < w1.heap.size := by omega
  have hB' : Below w.heap.size w w1 := by
      refine kb ?_ hb
      go_grown
  clear hb hz
  obtain ⟨hf_0, hf_1, hf_2, hf_3, hf_4, hf_5, hf_6, hf_7, hf_8, hf_9, hf_10, hf_11⟩ := T
  have hlf := hlf'; clear hlf'
  have hnf0 : ¬ (w.heap.size = w1.heap.size) := by omega
  have hnf1 : ¬ (w.heap.size = w1.heap.size + 1) := by omega
  have hkf1 : w.heap.size < w1.heap.size + 1 := by omega
  have hnf2 : ¬ (w.heap.size = w1.heap.size + 1 + 1) := by omega
  have hkf2 : w.heap.size < w1.heap.size + 1 + 1 := by omega
  have hB := hB'; clear hB'
  have hsz := hB.size
  go_wp2_with fail
  ((with_reducible refine (other_c y s q _).mono ?_); rintro _ w2 ⟨rfl, hb⟩)
  have T : w2.cell? ⟨w.heap.size, 0, none⟩ = some (B8 x) ∧ w2.cell? ⟨w.heap.size, 1, none⟩ = some (B8 t) ∧ w2.cell? ⟨w.heap.size, 2, none⟩ = some (B8 y) ∧ w2.cell? ⟨w.heap.size, 3, none⟩ = some (B8 s) ∧ w2.cell? ⟨w.heap.size, 4, none⟩ = some (.bool c) ∧ w2.cell? ⟨w.heap.size, 5, none⟩ = some (.bool ct) ∧ w2.cell? ⟨w.heap.size, 6, none⟩ = some (.bool d) ∧ w2.cell? ⟨w.heap.size, 7, none⟩ = some (.bool dt) ∧ w2.cell? ⟨w.heap.size, 8, none⟩ = some (B8 p) ∧ w2.cell? ⟨w.heap.size, 9, none⟩ = some (B8 q) ∧ w2.cell? ⟨w.heap.size, 10, none⟩ = some (B8 r) ∧ w2.cell? ⟨w.heap.size, 11, none⟩ = some (B8 z) ∧ w2.cell? ⟨w1.heap.size, 0, none⟩ = some (B8 (oth x t p)) ∧ w2.cell? ⟨w1.heap.size, 1, none⟩ = some (B8 t) := by
      refine ⟨?_, ?_, ?_, ?_, ?_, ?_, ?_, ?_, ?_, ?_, ?_, ?_, ?_, ?_⟩ <;> refine kc hb ?_ <;> (go_simp; first | done | rfl)
  have hz := hb.size
  (try simp only [World.size_alloc, World.size_setCell, World.size_drew] at hz)
  have hlf' : w.heap.size < w2.heap.size := by omega
  have hla' : w1.heap.size < w2.heap.size := by omega
  have hB' : Below w.heap.size w w2 := by
      refine kb ?_ hb
      go_grown
  clear hf_0 hf_1 hf_2 hf_3 hf_4 hf_5 hf_6 hf_7 hf_8 hf_9 hf_10 hf_11 hlf hnf0 hnf1 hkf1 hnf2 hkf2 hB hsz
  clear hb hz
  obtain ⟨hf_0, hf_1, hf_2, hf_3, hf_4, hf_5, hf_6, hf_7, hf_8, hf_9, hf_10, hf_11, ha_0, ha_1⟩ := T
  have hlf := hlf'; clear hlf'
  have hla := hla'; clear hla'
  have hnf0 : ¬ (w.heap.size = w2.heap.size) := by omega
  have hnf1 : ¬ (w.heap.size = w2.heap.size + 1) := by omega
  have hkf1 : w.heap.size < w2.heap.size + 1 := by omega
  have hnf2 : ¬ (w.heap.size = w2.heap.size + 1 + 1) := by omega
  have hkf2 : w.heap.size < w2.heap.size + 1 + 1 := by omega
  have hna0 : ¬ (w1.heap.size = w2.heap.size) := by omega
  have hna1 : ¬ (w1.heap.size = w2.heap.size + 1) := by omega
  have hka1 : w1.heap.size < w2.heap.size + 1 := by omega
  have hna2 : ¬ (w1.heap.size = w2.heap.size + 1 + 1) := by omega
  have hka2 : w1.heap.size < w2.heap.size + 1 + 1 := by omega
  have hB := hB'; clear hB'
  have hsz := hB.size
  go_wp2_with fail
  ((with_reducible refine (bit_c c ct r _).mono ?_); rintro _ w3 ⟨rfl, hb⟩)
  have T : w3.cell? ⟨w.heap.size, 0, none⟩ = some (B8 x) ∧ w3.cell? ⟨w.heap.size, 1, none⟩ = some (B8 t) ∧ w3.cell? ⟨w.heap.size, 2, none⟩ = some (B8 y) ∧ w3.cell? ⟨w.heap.size, 3, none⟩ = some (B8 s) ∧ w3.cell? ⟨w.heap.size, 4, none⟩ = some (.bool c) ∧ w3.cell? ⟨w.heap.size, 5, none⟩ = some (.bool ct) ∧ w3.cell? ⟨w.heap.size, 6, none⟩ = some (.bool d) ∧ w3.cell? ⟨w.heap.size, 7, none⟩ = some (.bool dt) ∧ w3.cell? ⟨w.heap.size, 8, none⟩ = some (B8 p) ∧ w3.cell? ⟨w.heap.size, 9, none⟩ = some (B8 q) ∧ w3.cell? ⟨w.heap.size, 10, none⟩ = some (B8 r) ∧ w3.cell? ⟨w.heap.size, 11, none⟩ = some (B8 z) ∧ w3.cell? ⟨w1.heap.size, 0, none⟩ = some (B8 (oth x t p)) ∧ w3.cell? ⟨w1.heap.size, 1, none⟩ = some (B8 t) ∧ w3.cell? ⟨w2.heap.size, 0, none⟩ = some (B8 (oth y s q)) ∧ w3.cell? ⟨w2.heap.size, 1, none⟩ = some (B8 s) := by
      refine ⟨?_, ?_, ?_, ?_, ?_, ?_, ?_, ?_, ?_, ?_, ?_, ?_, ?_, ?_, ?_, ?_⟩ <;> refine kc hb ?_ <;> (go_simp; first | done | rfl)
  have hz := hb.size
  (try simp only [World.size_alloc, World.size_setCell, World.size_drew] at hz)
  have hlf' : w.heap.size < w3.heap.size := by omega
  have hla' : w1.heap.size < w3.heap.size := by omega
  have hlb' : w2.heap.size < w3.heap.size := by omega
  have hB' : Below w.heap.size w w3 := by
      refine kb ?_ hb
      go_grown
  clear hf_0 hf_1 hf_2 hf_3 hf_4 hf_5 hf_6 hf_7 hf_8 hf_9 hf_10 hf_11 ha_0 ha_1 hlf hla hnf0 hnf1 hkf1 hnf2 hkf2 hna0 hna1 hka1 hna2 hka2 hB hsz
  clear hb hz
  obtain ⟨hf_0, hf_1, hf_2, hf_3, hf_4, hf_5, hf_6, hf_7, hf_8, hf_9, hf_10, hf_11, ha_0, ha_1, hb_0, hb_1⟩ := T
  have hlf := hlf'; clear hlf'
  have hla := hla'; clear hla'
  have hlb := hlb'; clear hlb'
  have hnf0 : ¬ (w.heap.size = w3.heap.size) := by omega
  have hnf1 : ¬ (w.heap.size = w3.heap.size + 1) := by omega
  have hkf1 : w.heap.size < w3.heap.size + 1 := by omega
  have hnf2 : ¬ (w.heap.size = w3.heap.size + 1 + 1) := by omega
  have hkf2 : w.heap.size < w3.heap.size + 1 + 1 := by omega
  have hna0 : ¬ (w1.heap.size = w3.heap.size) := by omega
  have hna1 : ¬ (w1.heap.size = w3.heap.size + 1) := by omega
  have hka1 : w1.heap.size < w3.heap.size + 1 := by omega
  have hna2 : ¬ (w1.heap.size = w3.heap.size + 1 + 1) := by omega
  have hka2 : w1.heap.size < w3.heap.size + 1 + 1 := by omega
  have hnb0 : ¬ (w2.heap.size = w3.heap.size) := by omega
  have hnb1 : ¬ (w2.heap.size = w3.heap.size + 1) := by omega
  have hkb1 : w2.heap.size < w3.heap.size + 1 := by omega
  have hnb2 : ¬ (w2.heap.size = w3.heap.size + 1 + 1) := by omega
  have hkb2 : w2.heap.size < w3.heap.size + 1 + 1 := by omega
  have hB := hB'; clear hB'
  have hsz := hB.size
  go_wp2_with fail
  ((with_reducible refine (bit_c d dt z _).mono ?_); rintro _ w4 ⟨rfl, hb⟩)
  have T : w4.cell? ⟨w.heap.size, 0, none⟩ = some (B8 x) ∧ w4.cell? ⟨w.heap.size, 1, none⟩ = some (B8 t) ∧ w4.cell? ⟨w.heap.size, 2, none⟩ = some (B8 y) ∧ w4.cell? ⟨w.heap.size, 3, none⟩ = some (B8 s) ∧ w4.cell? ⟨w.heap.size, 4, none⟩ = some (.bool c) ∧ w4.cell? ⟨w.heap.size, 5, none⟩ = some (.bool ct) ∧ w4.cell? ⟨w.heap.size, 6, none⟩ = some (.bool d) ∧ w4.cell? ⟨w.heap.size, 7, none⟩ = some (.bool dt) ∧ w4.cell? ⟨w.heap.size, 8, none⟩ = some (B8 p) ∧ w4.cell? ⟨w.heap.size, 9, none⟩ = some (B8 q) ∧ w4.cell? ⟨w.heap.size, 10, none⟩ = some (B8 r) ∧ w4.cell? ⟨w.heap.size, 11, none⟩ = some (B8 z) ∧ w4.cell? ⟨w1.heap.size, 0, none⟩ = some (B8 (oth x t p)) ∧ w4.cell? ⟨w1.heap.size, 1, none⟩ = some (B8 t) ∧ w4.cell? ⟨w2.heap.size, 0, none⟩ = some (B8 (oth y s q)) ∧ w4.cell? ⟨w2.heap.size, 1, none⟩ = some (B8 s) ∧ w4.cell? ⟨w3.heap.size, 0, none⟩ = some (.bool (obit c ct r)) ∧ w4.cell? ⟨w3.heap.size, 1, none⟩ = some (.bool ct) := by
      refine ⟨?_, ?_, ?_, ?_, ?_, ?_, ?_, ?_, ?_, ?_, ?_, ?_, ?_, ?_, ?_, ?_, ?_, ?_⟩ <;> refine kc hb ?_ <;> (go_simp; first | done | rfl)
  have hz := hb.size
  (try simp only [World.size_alloc, World.size_setCell, World.size_drew] at hz)
  have hlf' : w.heap.size < w4.heap.size := by omega
  have hla' : w1.heap.size < w4.heap.size := by omega
  have hlb' : w2.heap.size < w4.heap.size := by omega
  have hli' : w3.heap.size < w4.heap.size := by omega
  have hB' : Below w.heap.size w w4 := by
      refine kb ?_ hb
      go_grown
  clear hf_0 hf_1 hf_2 hf_3 hf_4 hf_5 hf_6 hf_7 hf_8 hf_9 hf_10 hf_11 ha_0 ha_1 hb_0 hb_1 hlf hla hlb hnf0 hnf1 hkf1 hnf2 hkf2 hna0 hna1 hka1 hna2 hka2 hnb0 hnb1 hkb1 hnb2 hkb2 hB hsz
  clear hb hz
  obtain ⟨hf_0, hf_1, hf_2, hf_3, hf_4, hf_5, hf_6, hf_7, hf_8, hf_9, hf_10, hf_11, ha_0, ha_1, hb_0, hb_1, hi_0, hi_1⟩ := T
  have hlf := hlf'; clear hlf'
  have hla := hla'; clear hla'
  have hlb := hlb'; clear hlb'
  have hli := hli'; clear hli'
  have hnf0 : ¬ (w.heap.size = w4.heap.size) := by omega
  have hnf1 : ¬ (w.heap.size = w4.heap.size + 1) := by omega
  have hkf1 : w.heap.size < w4.heap.size + 1 := by omega
  have hnf2 : ¬ (w.heap.size = w4.heap.size + 1 + 1) := by omega
  have hkf2 : w.heap.size < w4.heap.size + 1 + 1 := by omega
  have hna0 : ¬ (w1.heap.size = w4.heap.size) := by omega
  have hna1 : ¬ (w1.heap.size = w4.heap.size + 1) := by omega
  have hka1 : w1.heap.size < w4.heap.size + 1 := by omega
  have hna2 : ¬ (w1.heap.size = w4.heap.size + 1 + 1) := by omega
  have hka2 : w1.heap.size < w4.heap.size + 1 + 1 := by omega
  have hnb0 : ¬ (w2.heap.size = w4.heap.size) := by omega
  have hnb1 : ¬ (w2.heap.size = w4.heap.size + 1) := by omega
  have hkb1 : w2.heap.size < w4.heap.size + 1 := by omega
  have hnb2 : ¬ (w2.heap.size = w4.heap.size + 1 + 1) := by omega
  have hkb2 : w2.heap.size < w4.heap.size + 1 + 1 := by omega
  have hni0 : ¬ (w3.heap.size = w4.heap.size) := by omega
  have hni1 : ¬ (w3.heap.size = w4.heap.size + 1) := by omega
  have hki1 : w3.heap.size < w4.heap.size + 1 := by omega
  have hni2 : ¬ (w3.heap.size = w4.heap.size + 1 + 1) := by omega
  have hki2 : w3.heap.size < w4.heap.size + 1 + 1 := by omega
  have hB := hB'; clear hB'
  have hsz := hB.size
  go_upto_region 5 with fail
  refine wp_region_plan (fun w' => w'.cell? ⟨w.heap.size, 0, none⟩ = some (B8 x) ∧ w'.cell? ⟨w.heap.size, 1, none⟩ = some (B8 t) ∧ w'.cell? ⟨w.heap.size, 2, none⟩ = some (B8 y) ∧ w'.cell? ⟨w.heap.size, 3, none⟩ = some (B8 s) ∧ w'.cell? ⟨w.heap.size, 4, none⟩ = some (.bool c) ∧ w'.cell? ⟨w.heap.size, 5, none⟩ = some (.bool ct) ∧ w'.cell? ⟨w.heap.size, 6, none⟩ = some (.bool d) ∧ w'.cell? ⟨w.heap.size, 7, none⟩ = some (.bool dt) ∧ w'.cell? ⟨w.heap.size, 8, none⟩ = some (B8 p) ∧ w'.cell? ⟨w.heap.size, 9, none⟩ = some (B8 q) ∧ w'.cell? ⟨w.heap.size, 10, none⟩ = some (B8 r) ∧ w'.cell? ⟨w.heap.size, 11, none⟩ = some (B8 z) ∧ w'.cell? ⟨w1.heap.size, 0, none⟩ = some (B8 (oth x t p)) ∧ w'.cell? ⟨w1.heap.size, 1, none⟩ = some (B8 t) ∧ w'.cell? ⟨w2.heap.size, 0, none⟩ = some (B8 (oth y s q)) ∧ w'.cell? ⟨w2.heap.size, 1, none⟩ = some (B8 s) ∧ w'.cell? ⟨w3.heap.size, 0, none⟩ = some (.bool (obit c ct r)) ∧ w'.cell? ⟨w3.heap.size, 1, none⟩ = some (.bool ct) ∧ w'.cell? ⟨w4.heap.size, 0, none⟩ = some (.bool (obit d dt z)) ∧ w'.cell? ⟨w4.heap.size, 1, none⟩ = some (.bool dt) ∧ Below w.heap.size w w') (by kernel_rfl) (by kernel_rfl) (by kernel_rfl) ?_ ?_
  · (try dsimp only)
    refine ⟨?_, ?_, ?_, ?_, ?_, ?_, ?_, ?_, ?_, ?_, ?_, ?_, ?_, ?_, ?_, ?_, ?_, ?_, ?_, ?_, ?_⟩ <;> first | (go_simp; done) | (simp [*]; done) | go_grown
  repeat (first
    | (refine Plan.val (v := ?_) ?_ ?_ ?_; rotate_left; (· rfl); (· (intro W hSw; (try dsimp only at hSw); go_simp; all_goals (first | (with_reducible rfl) | (constructor <;> (with_reducible rfl))))); (try simp only [Act.put, List.setIfInBounds_toArray, List.set_cons_zero, List.set_cons_succ]))
    | (refine Plan.no ?_ ?_; (· rfl); (try simp only [Act.put, List.setIfInBounds_toArray, List.set_cons_zero, List.set_cons_succ]))
    | (refine Plan.call (v := ?_) (f := ?_) (args := ?_) ?_ ?_ ?_ ?_; rotate_left 3; (· rfl); (· (intro W hSw; (try dsimp only at hSw); go_simp; all_goals (first | (with_reducible rfl) | (constructor <;> (with_reducible rfl))))); (· (intro W hSw; (try dsimp only at hSw); first | (go_at_call 12; ((with_reducible refine (add_n x t y s c ct d dt _).mono ?_); rintro _ wz ⟨rfl, hb⟩; (refine ⟨?_, ?_⟩; (· with_reducible rfl); exact ⟨kc hb hSw.1, kc hb hSw.2.1, kc hb hSw.2.2.1, kc hb hSw.2.2.2.1, kc hb hSw.2.2.2.2.1, kc hb hSw.2.2.2.2.2.1, kc hb hSw.2.2.2.2.2.2.1, kc hb hSw.2.2.2.2.2.2.2.1, kc hb hSw.2.2.2.2.2.2.2.2.1, kc hb hSw.2.2.2.2.2.2.2.2.2.1, kc hb hSw.2.2.2.2.2.2.2.2.2.2.1, kc hb hSw.2.2.2.2.2.2.2.2.2.2.2.1, kc hb hSw.2.2.2.2.2.2.2.2.2.2.2.2.1, kc hb hSw.2.2.2.2.2.2.2.2.2.2.2.2.2.1, kc hb hSw.2.2.2.2.2.2.2.2.2.2.2.2.2.2.1, kc hb hSw.2.2.2.2.2.2.2.2.2.2.2.2.2.2.2.1, kc hb hSw.2.2.2.2.2.2.2.2.2.2.2.2.2.2.2.2.1, kc hb hSw.2.2.2.2.2.2.2.2.2.2.2.2.2.2.2.2.2.1, kc hb hSw.2.2.2.2.2.2.2.2.2.2.2.2.2.2.2.2.2.2.1, kc hb hSw.2.2.2.2.2.2.2.2.2.2.2.2.2.2.2.2.2.2.2.1, kb hSw.2.2.2.2.2.2.2.2.2.2.2.2.2.2.2.2.2.2.2.2 hb⟩))) | (go_at_call 12; ((with_reducible refine (add_o x t y s p q c ct d dt r z _).mono ?_); rintro _ wz ⟨rfl, hb⟩; (refine ⟨?_, ?_⟩; (· with_reducible rfl); exact ⟨kc hb hSw.1, kc hb hSw.2.1, kc hb hSw.2.2.1, kc hb hSw.2.2.2.1, kc hb hSw.2.2.2.2.1, kc hb hSw.2.2.2.2.2.1, kc hb hSw.2.2.2.2.2.2.1, kc hb hSw.2.2.2.2.2.2.2.1, kc hb hSw.2.2.2.2.2.2.2.2.1, kc hb hSw.2.2.2.2.2.2.2.2.2.1, kc hb hSw.2.2.2.2.2.2.2.2.2.2.1, kc hb hSw.2.2.2.2.2.2.2.2.2.2.2.1, kc hb hSw.2.2.2.2.2.2.2.2.2.2.2.2.1, kc hb hSw.2.2.2.2.2.2.2.2.2.2.2.2.2.1, kc hb hSw.2.2.2.2.2.2.2.2.2.2.2.2.2.2.1, kc hb hSw.2.2.2.2.2.2.2.2.2.2.2.2.2.2.2.1, kc hb hSw.2.2.2.2.2.2.2.2.2.2.2.2.2.2.2.2.1, kc hb hSw.2.2.2.2.2.2.2.2.2.2.2.2.2.2.2.2.2.1, kc hb hSw.2.2.2.2.2.2.2.2.2.2.2.2.2.2.2.2.2.2.1, kc hb hSw.2.2.2.2.2.2.2.2.2.2.2.2.2.2.2.2.2.2.2.1, kb hSw.2.2.2.2.2.2.2.2.2.2.2.2.2.2.2.2.2.2.2.2 hb⟩))) | (go_at_call 15; ((with_reducible refine (sub_n x t y s c ct d dt _).mono ?_); rintro _ wz ⟨rfl, hb⟩; (refine ⟨?_, ?_⟩; (· with_reducible rfl); exact ⟨kc hb hSw.1, kc hb hSw.2.1, kc hb hSw.2.2.1, kc hb hSw.2.2.2.1, kc hb hSw.2.2.2.2.1, kc hb hSw.2.2.2.2.2.1, kc hb hSw.2.2.2.2.2.2.1, kc hb hSw.2.2.2.2.2.2.2.1, kc hb hSw.2.2.2.2.2.2.2.2.1, kc hb hSw.2.2.2.2.2.2.2.2.2.1, kc hb hSw.2.2.2.2.2.2.2.2.2.2.1, kc hb hSw.2.2.2.2.2.2.2.2.2.2.2.1, kc hb hSw.2.2.2.2.2.2.2.2.2.2.2.2.1, kc hb hSw.2.2.2.2.2.2.2.2.2.2.2.2.2.1, kc hb hSw.2.2.2.2.2.2.2.2.2.2.2.2.2.2.1, kc hb hSw.2.2.2.2.2.2.2.2.2.2.2.2.2.2.2.1, kc hb hSw.2.2.2.2.2.2.2.2.2.2.2.2.2.2.2.2.1, kc hb hSw.2.2.2.2.2.2.2.2.2.2.2.2.2.2.2.2.2.1, kc hb hSw.2.2.2.2.2.2.2.2.2.2.2.2.2.2.2.2.2.2.1, kc hb hSw.2.2.2.2.2.2.2.2.2.2.2.2.2.2.2.2.2.2.2.1, kb hSw.2.2.2.2.2.2.2.2.2.2.2.2.2.2.2.2.2.2.2.2 hb⟩))) | (go_at_call 15; ((with_reducible refine (sub_o x t y s p q c ct d dt r z _).mono ?_); rintro _ wz ⟨rfl, hb⟩; (refine ⟨?_, ?_⟩; (· with_reducible rfl); exact ⟨kc hb hSw.1, kc hb hSw.2.1, kc hb hSw.2.2.1, kc hb hSw.2.2.2.1, kc hb hSw.2.2.2.2.1, kc hb hSw.2.2.2.2.2.1, kc hb hSw.2.2.2.2.2.2.1, kc hb hSw.2.2.2.2.2.2.2.1, kc hb hSw.2.2.2.2.2.2.2.2.1, kc hb hSw.2.2.2.2.2.2.2.2.2.1, kc hb hSw.2.2.2.2.2.2.2.2.2.2.1, kc hb hSw.2.2.2.2.2.2.2.2.2.2.2.1, kc hb hSw.2.2.2.2.2.2.2.2.2.2.2.2.1, kc hb hSw.2.2.2.2.2.2.2.2.2.2.2.2.2.1, kc hb hSw.2.2.2.2.2.2.2.2.2.2.2.2.2.2.1, kc hb hSw.2.2.2.2.2.2.2.2.2.2.2.2.2.2.2.1, kc hb hSw.2.2.2.2.2.2.2.2.2.2.2.2.2.2.2.2.1, kc hb hSw.2.2.2.2.2.2.2.2.2.2.2.2.2.2.2.2.2.1, kc hb hSw.2.2.2.2.2.2.2.2.2.2.2.2.2.2.2.2.2.2.1, kc hb hSw.2.2.2.2.2.2.2.2.2.2.2.2.2.2.2.2.2.2.2.1, kb hSw.2.2.2.2.2.2.2.2.2.2.2.2.2.2.2.2.2.2.2.2 hb⟩))) | (go_at_call 17; ((with_reducible refine (comp_n x t y s _).mono ?_); rintro _ wz ⟨rfl, hb⟩; (refine ⟨?_, ?_⟩; (· with_reducible rfl); exact ⟨kc hb hSw.1, kc hb hSw.2.1, kc hb hSw.2.2.1, kc hb hSw.2.2.2.1, kc hb hSw.2.2.2.2.1, kc hb hSw.2.2.2.2.2.1, kc hb hSw.2.2.2.2.2.2.1, kc hb hSw.2.2.2.2.2.2.2.1, kc hb hSw.2.2.2.2.2.2.2.2.1, kc hb hSw.2.2.2.2.2.2.2.2.2.1, kc hb hSw.2.2.2.2.2.2.2.2.2.2.1, kc hb hSw.2.2.2.2.2.2.2.2.2.2.2.1, kc hb hSw.2.2.2.2.2.2.2.2.2.2.2.2.1, kc hb hSw.2.2.2.2.2.2.2.2.2.2.2.2.2.1, kc hb hSw.2.2.2.2.2.2.2.2.2.2.2.2.2.2.1, kc hb hSw.2.2.2.2.2.2.2.2.2.2.2.2.2.2.2.1, kc hb hSw.2.2.2.2.2.2.2.2.2.2.2.2.2.2.2.2.1, kc hb hSw.2.2.2.2.2.2.2.2.2.2.2.2.2.2.2.2.2.1, kc hb hSw.2.2.2.2.2.2.2.2.2.2.2.2.2.2.2.2.2.2.1, kc hb hSw.2.2.2.2.2.2.2.2.2.2.2.2.2.2.2.2.2.2.2.1, kb hSw.2.2.2.2.2.2.2.2.2.2.2.2.2.2.2.2.2.2.2.2 hb⟩))) | (go_at_call 17; ((with_reducible refine (comp_o x t y s p q _).mono ?_); rintro _ wz ⟨rfl, hb⟩; (refine ⟨?_, ?_⟩; (· with_reducible rfl); exact ⟨kc hb hSw.1, kc hb hSw.2.1, kc hb hSw.2.2.1, kc hb hSw.2.2.2.1, kc hb hSw.2.2.2.2.1, kc hb hSw.2.2.2.2.2.1, kc hb hSw.2.2.2.2.2.2.1, kc hb hSw.2.2.2.2.2.2.2.1, kc hb hSw.2.2.2.2.2.2.2.2.1, kc hb hSw.2.2.2.2.2.2.2.2.2.1, kc hb hSw.2.2.2.2.2.2.2.2.2.2.1, kc hb hSw.2.2.2.2.2.2.2.2.2.2.2.1, kc hb hSw.2.2.2.2.2.2.2.2.2.2.2.2.1, kc hb hSw.2.2.2.2.2.2.2.2.2.2.2.2.2.1, kc hb hSw.2.2.2.2.2.2.2.2.2.2.2.2.2.2.1, kc hb hSw.2.2.2.2.2.2.2.2.2.2.2.2.2.2.2.1, kc hb hSw.2.2.2.2.2.2.2.2.2.2.2.2.2.2.2.2.1, kc hb hSw.2.2.2.2.2.2.2.2.2.2.2.2.2.2.2.2.2.1, kc hb hSw.2.2.2.2.2.2.2.2.2.2.2.2.2.2.2.2.2.2.1, kc hb hSw.2.2.2.2.2.2.2.2.2.2.2.2.2.2.2.2.2.2.2.1, kb hSw.2.2.2.2.2.2.2.2.2.2.2.2.2.2.2.2.2.2.2.2 hb⟩))) | (go_at_call 19; ((with_reducible refine (step_n _ _ _ _).mono ?_); rintro _ wz ⟨rfl, hb⟩; (refine ⟨?_, ?_⟩; (· with_reducible rfl); exact ⟨kc hb hSw.1, kc hb hSw.2.1, kc hb hSw.2.2.1, kc hb hSw.2.2.2.1, kc hb hSw.2.2.2.2.1, kc hb hSw.2.2.2.2.2.1, kc hb hSw.2.2.2.2.2.2.1, kc hb hSw.2.2.2.2.2.2.2.1, kc hb hSw.2.2.2.2.2.2.2.2.1, kc hb hSw.2.2.2.2.2.2.2.2.2.1, kc hb hSw.2.2.2.2.2.2.2.2.2.2.1, kc hb hSw.2.2.2.2.2.2.2.2.2.2.2.1, kc hb hSw.2.2.2.2.2.2.2.2.2.2.2.2.1, kc hb hSw.2.2.2.2.2.2.2.2.2.2.2.2.2.1, kc hb hSw.2.2.2.2.2.2.2.2.2.2.2.2.2.2.1, kc hb hSw.2.2.2.2.2.2.2.2.2.2.2.2.2.2.2.1, kc hb hSw.2.2.2.2.2.2.2.2.2.2.2.2.2.2.2.2.1, kc hb hSw.2.2.2.2.2.2.2.2.2.2.2.2.2.2.2.2.2.1, kc hb hSw.2.2.2.2.2.2.2.2.2.2.2.2.2.2.2.2.2.2.1, kc hb hSw.2.2.2.2.2.2.2.2.2.2.2.2.2.2.2.2.2.2.2.1, kb hSw.2.2.2.2.2.2.2.2.2.2.2.2.2.2.2.2.2.2.2.2 hb⟩))) | (go_at_call 23; ((with_reducible refine (keeps_yes _ _ _ (keep_add x t y s p q c ct d dt r z).2 _).mono ?_); rintro _ wz ⟨rfl, hb⟩; (refine ⟨?_, ?_⟩; (· with_reducible rfl); exact ⟨kc hb hSw.1, kc hb hSw.2.1, kc hb hSw.2.2.1, kc hb hSw.2.2.2.1, kc hb hSw.2.2.2.2.1, kc hb hSw.2.2.2.2.2.1, kc hb hSw.2.2.2.2.2.2.1, kc hb hSw.2.2.2.2.2.2.2.1, kc hb hSw.2.2.2.2.2.2.2.2.1, kc hb hSw.2.2.2.2.2.2.2.2.2.1, kc hb hSw.2.2.2.2.2.2.2.2.2.2.1, kc hb hSw.2.2.2.2.2.2.2.2.2.2.2.1, kc hb hSw.2.2.2.2.2.2.2.2.2.2.2.2.1, kc hb hSw.2.2.2.2.2.2.2.2.2.2.2.2.2.1, kc hb hSw.2.2.2.2.2.2.2.2.2.2.2.2.2.2.1, kc hb hSw.2.2.2.2.2.2.2.2.2.2.2.2.2.2.2.1, kc hb hSw.2.2.2.2.2.2.2.2.2.2.2.2.2.2.2.2.1, kc hb hSw.2.2.2.2.2.2.2.2.2.2.2.2.2.2.2.2.2.1, kc hb hSw.2.2.2.2.2.2.2.2.2.2.2.2.2.2.2.2.2.2.1, kc hb hSw.2.2.2.2.2.2.2.2.2.2.2.2.2.2.2.2.2.2.2.1, kb hSw.2.2.2.2.2.2.2.2.2.2.2.2.2.2.2.2.2.2.2.2 hb⟩))) | (go_at_call 23; ((with_reducible refine (keeps_yes _ _ _ (keep_sub x t y s p q c ct d dt r z).2 _).mono ?_); rintro _ wz ⟨rfl, hb⟩; (refine ⟨?_, ?_⟩; (· with_reducible rfl); exact ⟨kc hb hSw.1, kc hb hSw.2.1, kc hb hSw.2.2.1, kc hb hSw.2.2.2.1, kc hb hSw.2.2.2.2.1, kc hb hSw.2.2.2.2.2.1, kc hb hSw.2.2.2.2.2.2.1, kc hb hSw.2.2.2.2.2.2.2.1, kc hb hSw.2.2.2.2.2.2.2.2.1, kc hb hSw.2.2.2.2.2.2.2.2.2.1, kc hb hSw.2.2.2.2.2.2.2.2.2.2.1, kc hb hSw.2.2.2.2.2.2.2.2.2.2.2.1, kc hb hSw.2.2.2.2.2.2.2.2.2.2.2.2.1, kc hb hSw.2.2.2.2.2.2.2.2.2.2.2.2.2.1, kc hb hSw.2.2.2.2.2.2.2.2.2.2.2.2.2.2.1, kc hb hSw.2.2.2.2.2.2.2.2.2.2.2.2.2.2.2.1, kc hb hSw.2.2.2.2.2.2.2.2.2.2.2.2.2.2.2.2.1, kc hb hSw.2.2.2.2.2.2.2.2.2.2.2.2.2.2.2.2.2.1, kc hb hSw.2.2.2.2.2.2.2.2.2.2.2.2.2.2.2.2.2.2.1, kc hb hSw.2.2.2.2.2.2.2.2.2.2.2.2.2.2.2.2.2.2.2.1, kb hSw.2.2.2.2.2.2.2.2.2.2.2.2.2.2.2.2.2.2.2.2 hb⟩))) | (go_at_call 23; ((with_reducible refine (keeps_yes _ _ _ (keep_comp x t y s p q).2 _).mono ?_); rintro _ wz ⟨rfl, hb⟩; (refine ⟨?_, ?_⟩; (· with_reducible rfl); exact ⟨kc hb hSw.1, kc hb hSw.2.1, kc hb hSw.2.2.1, kc hb hSw.2.2.2.1, kc hb hSw.2.2.2.2.1, kc hb hSw.2.2.2.2.2.1, kc hb hSw.2.2.2.2.2.2.1, kc hb hSw.2.2.2.2.2.2.2.1, kc hb hSw.2.2.2.2.2.2.2.2.1, kc hb hSw.2.2.2.2.2.2.2.2.2.1, kc hb hSw.2.2.2.2.2.2.2.2.2.2.1, kc hb hSw.2.2.2.2.2.2.2.2.2.2.2.1, kc hb hSw.2.2.2.2.2.2.2.2.2.2.2.2.1, kc hb hSw.2.2.2.2.2.2.2.2.2.2.2.2.2.1, kc hb hSw.2.2.2.2.2.2.2.2.2.2.2.2.2.2.1, kc hb hSw.2.2.2.2.2.2.2.2.2.2.2.2.2.2.2.1, kc hb hSw.2.2.2.2.2.2.2.2.2.2.2.2.2.2.2.2.1, kc hb hSw.2.2.2.2.2.2.2.2.2.2.2.2.2.2.2.2.2.1, kc hb hSw.2.2.2.2.2.2.2.2.2.2.2.2.2.2.2.2.2.2.1, kc hb hSw.2.2.2.2.2.2.2.2.2.2.2.2.2.2.2.2.2.2.2.1, kb hSw.2.2.2.2.2.2.2.2.2.2.2.2.2.2.2.2.2.2.2.2 hb⟩))) | (go_at_call 24; ((with_reducible refine (same_yes _ _ _ (keep_step x t p) _).mono ?_); rintro _ wz ⟨rfl, hb⟩; (refine ⟨?_, ?_⟩; (· with_reducible rfl); exact ⟨kc hb hSw.1, kc hb hSw.2.1, kc hb hSw.2.2.1, kc hb hSw.2.2.2.1, kc hb hSw.2.2.2.2.1, kc hb hSw.2.2.2.2.2.1, kc hb hSw.2.2.2.2.2.2.1, kc hb hSw.2.2.2.2.2.2.2.1, kc hb hSw.2.2.2.2.2.2.2.2.1, kc hb hSw.2.2.2.2.2.2.2.2.2.1, kc hb hSw.2.2.2.2.2.2.2.2.2.2.1, kc hb hSw.2.2.2.2.2.2.2.2.2.2.2.1, kc hb hSw.2.2.2.2.2.2.2.2.2.2.2.2.1, kc hb hSw.2.2.2.2.2.2.2.2.2.2.2.2.2.1, kc hb hSw.2.2.2.2.2.2.2.2.2.2.2.2.2.2.1, kc hb hSw.2.2.2.2.2.2.2.2.2.2.2.2.2.2.2.1, kc hb hSw.2.2.2.2.2.2.2.2.2.2.2.2.2.2.2.2.1, kc hb hSw.2.2.2.2.2.2.2.2.2.2.2.2.2.2.2.2.2.1, kc hb hSw.2.2.2.2.2.2.2.2.2.2.2.2.2.2.2.2.2.2.1, kc hb hSw.2.2.2.2.2.2.2.2.2.2.2.2.2.2.2.2.2.2.2.1, kb hSw.2.2.2.2.2.2.2.2.2.2.2.2.2.2.2.2.2.2.2.2 hb⟩))) | (go_at_call 14; ((with_reducible refine (awake_c _).mono ?_); rintro _ wz ⟨rfl, hb⟩; (refine ⟨?_, ?_⟩; (· with_reducible rfl); exact ⟨kc hb hSw.1, kc hb hSw.2.1, kc hb hSw.2.2.1, kc hb hSw.2.2.2.1, kc hb hSw.2.2.2.2.1, kc hb hSw.2.2.2.2.2.1, kc hb hSw.2.2.2.2.2.2.1, kc hb hSw.2.2.2.2.2.2.2.1, kc hb hSw.2.2.2.2.2.2.2.2.1, kc hb hSw.2.2.2.2.2.2.2.2.2.1, kc hb hSw.2.2.2.2.2.2.2.2.2.2.1, kc hb hSw.2.2.2.2.2.2.2.2.2.2.2.1, kc hb hSw.2.2.2.2.2.2.2.2.2.2.2.2.1, kc hb hSw.2.2.2.2.2.2.2.2.2.2.2.2.2.1, kc hb hSw.2.2.2.2.2.2.2.2.2.2.2.2.2.2.1, kc hb hSw.2.2.2.2.2.2.2.2.2.2.2.2.2.2.2.1, kc hb hSw.2.2.2.2.2.2.2.2.2.2.2.2.2.2.2.2.1, kc hb hSw.2.2.2.2.2.2.2.2.2.2.2.2.2.2.2.2.2.1, kc hb hSw.2.2.2.2.2.2.2.2.2.2.2.2.2.2.2.2.2.2.1, kc hb hSw.2.2.2.2.2.2.2.2.2.2.2.2.2.2.2.2.2.2.2.1, kb hSw.2.2.2.2.2.2.2.2.2.2.2.2.2.2.2.2.2.2.2.2 hb⟩))))); (try simp only [Act.put, List.setIfInBounds_toArray, List.set_cons_zero, List.set_cons_succ])))
  refine Plan.done ?_
  intro wz T
  (try dsimp only at T)
  have hBe := T.2.2.2.2.2.2.2.2.2.2.2.2.2.2.2.2.2.2.2.2
  go_wp2
  go_ret
  exact ⟨rfl, hBe⟩
end Go.Proofs.Ytdmgdldadpkhgaa
