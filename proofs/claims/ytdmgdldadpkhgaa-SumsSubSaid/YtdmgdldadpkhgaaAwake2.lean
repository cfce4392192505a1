/-
  The chapter's examples hold: what 'awake' comes to.
-/
import Derived.Test.YtdmgdldadpkhgaaAdd
import Derived.Test.YtdmgdldadpkhgaaPlanA
set_option linter.unusedSimpArgs false
set_option linter.unusedVariables false
namespace Go.Proofs.Ytdmgdldadpkhgaa
open Go.RowKit

theorem yes_c (w : World) : Calls Try.prog 26 #[] w fun e w' => e = .returned (TBit true false) ∧ Below w.heap.size w w' := by
  go_enter Try.func26, Try.ntmps26
  go_wp2
  refine bodyPost_ret (v := TBit _ _) (by simp [results, Try.results26, go_sem] <;> first | done | rfl | exact dec_eq Iff.rfl) rfl ⟨rfl, by go_grown⟩
theorem ofB_c (n : Int) (x : BitVec 8) (h : n = u8 x) (w : World) : Calls Try.prog 25 #[.int .i64 n] w fun e w' => e = .returned (TB x 0#8) ∧ Below w.heap.size w w' := by
  subst h
  refine (of_c _ w).mono fun e w' ⟨h1, h2⟩ => ⟨?_, h2⟩
  have : ∀ x : BitVec 8, BitVec.ofInt 8 (u8 x) = x := by decide +kernel
  rw [h1, this]

theorem of37 (w : World) : Calls Try.prog 25 #[.int .i64 37] w fun e w' => e = .returned (.agg #[.int .u8 37, .int .u8 0]) ∧ Below w.heap.size w w' := ofB_c 37 37#8 rfl w
theorem of72 (w : World) : Calls Try.prog 25 #[.int .i64 72] w fun e w' => e = .returned (.agg #[.int .u8 72, .int .u8 0]) ∧ Below w.heap.size w w' := ofB_c 72 72#8 rfl w
theorem of88 (w : World) : Calls Try.prog 25 #[.int .i64 88] w fun e w' => e = .returned (.agg #[.int .u8 88, .int .u8 0]) ∧ Below w.heap.size w w' := ofB_c 88 88#8 rfl w
theorem of70 (w : World) : Calls Try.prog 25 #[.int .i64 70] w fun e w' => e = .returned (.agg #[.int .u8 70, .int .u8 0]) ∧ Below w.heap.size w w' := ofB_c 70 70#8 rfl w
theorem vs_eq {s s' : SV} {t t' : ST} (h : s = s') (h' : t = t') : Ending.returned (VS s t) = .returned (VS s' t') := by rw [h, h']
theorem add_ex1 (w : World) : Calls Try.prog 12 #[.agg #[.int .u8 37, .int .u8 0], .agg #[.int .u8 72, .int .u8 0], .agg #[.bool false, .bool false], .agg #[.bool true, .bool false]] w fun e w' =>
    e = .returned (.agg #[.int .u8 115, .int .u8 0, .bool false, .bool false, .bool false, .bool false, .bool false, .bool false, .bool false, .bool false]) ∧ Below w.heap.size w w' :=
  (add_n 37#8 0#8 72#8 0#8 false false true false w).mono fun _ _ ⟨h1, h2⟩ => ⟨h1.trans (vs_eq (s' := ⟨115#8, false, false, false, false⟩) (t' := ⟨0#8, false, false, false, false⟩) (by decide +kernel) (by decide +kernel)), h2⟩
theorem add_ex2 (w : World) : Calls Try.prog 12 #[.agg #[.int .u8 88, .int .u8 0], .agg #[.int .u8 70, .int .u8 0], .agg #[.bool true, .bool false], .agg #[.bool true, .bool false]] w fun e w' =>
    e = .returned (.agg #[.int .u8 5, .int .u8 0, .bool true, .bool false, .bool true, .bool false, .bool false, .bool false, .bool true, .bool false]) ∧ Below w.heap.size w w' :=
  (add_n 88#8 0#8 70#8 0#8 true false true false w).mono fun _ _ ⟨h1, h2⟩ => ⟨h1.trans (vs_eq (s' := ⟨5#8, true, true, false, true⟩) (t' := ⟨0#8, false, false, false, false⟩) (by decide +kernel) (by decide +kernel)), h2⟩

set_option maxRecDepth 100000 in
set_option maxHeartbeats 2000000 in
theorem awake_c (w : World) : Calls Try.prog 14 #[] w fun e w' => e = .returned (.bool true) ∧ Below w.heap.size w w' := by
  go_enter Try.func14, Try.ntmps14
  go_wp2_with fail
  ((with_reducible refine (of37 _).mono ?_); rintro _ w1 ⟨rfl, hb⟩)
  have hz := hb.size
  (try simp only [World.size_alloc, World.size_setCell, World.size_drew] at hz)
  have hB' : Below w.heap.size w w1 := by
      refine kb ?_ hb
      go_grown
  clear hb hz
  have hB := hB'; clear hB'
  have hsz := hB.size
  go_wp2_with fail
  ((with_reducible refine (of72 _).mono ?_); rintro _ w2 ⟨rfl, hb⟩)
  have hz := hb.size
  (try simp only [World.size_alloc, World.size_setCell, World.size_drew] at hz)
  have hB' : Below w.heap.size w w2 := by
      refine kb ?_ hb
      go_grown
  clear hB hsz
  clear hb hz
  have hB := hB'; clear hB'
  have hsz := hB.size
  go_wp2_with fail
  ((with_reducible refine (yes_c _).mono ?_); rintro _ w3 ⟨rfl, hb⟩)
  have hz := hb.size
  (try simp only [World.size_alloc, World.size_setCell, World.size_drew] at hz)
  have hB' : Below w.heap.size w w3 := by
      refine kb ?_ hb
      go_grown
  clear hB hsz
  clear hb hz
  have hB := hB'; clear hB'
  have hsz := hB.size
  go_wp2_with fail
  ((with_reducible refine (add_ex1 _).mono ?_); rintro _ w4 ⟨rfl, hb⟩)
  have hz := hb.size
  (try simp only [World.size_alloc, World.size_setCell, World.size_drew] at hz)
  have hB' : Below w.heap.size w w4 := by
      refine kb ?_ hb
      go_grown
  clear hB hsz
  clear hb hz
  have hB := hB'; clear hB'
  have hsz := hB.size
  go_wp2_with fail
  ((with_reducible refine (of88 _).mono ?_); rintro _ w5 ⟨rfl, hb⟩)
  have T : w5.cell? ⟨w4.heap.size, 0, none⟩ = some (.int .u8 115) ∧ w5.cell? ⟨w4.heap.size, 1, none⟩ = some (.int .u8 0) ∧ w5.cell? ⟨w4.heap.size, 2, none⟩ = some (.bool false) ∧ w5.cell? ⟨w4.heap.size, 3, none⟩ = some (.bool false) ∧ w5.cell? ⟨w4.heap.size, 4, none⟩ = some (.bool false) ∧ w5.cell? ⟨w4.heap.size, 5, none⟩ = some (.bool false) ∧ w5.cell? ⟨w4.heap.size, 6, none⟩ = some (.bool false) ∧ w5.cell? ⟨w4.heap.size, 7, none⟩ = some (.bool false) ∧ w5.cell? ⟨w4.heap.size, 8, none⟩ = some (.bool false) ∧ w5.cell? ⟨w4.heap.size, 9, none⟩ = some (.bool false) := by
      refine ⟨?_, ?_, ?_, ?_, ?_, ?_, ?_, ?_, ?_, ?_⟩ <;> refine kc hb ?_ <;> (go_simp; first | done | rfl)
  have hz := hb.size
  (try simp only [World.size_alloc, World.size_setCell, World.size_drew] at hz)
  have hls' : w4.heap.size < w5.heap.size := by omega
  have hB' : Below w.heap.size w w5 := by
      refine kb ?_ hb
      go_grown
  clear hB hsz
  clear hb hz
  obtain ⟨hs_0, hs_1, hs_2, hs_3, hs_4, hs_5, hs_6, hs_7, hs_8, hs_9⟩ := T
  have hls := hls'; clear hls'
  have hns0 : ¬ (w4.heap.size = w5.heap.size) := by omega
  have hns1 : ¬ (w4.heap.size = w5.heap.size + 1) := by omega
  have hks1 : w4.heap.size < w5.heap.size + 1 := by omega
  have hns2 : ¬ (w4.heap.size = w5.heap.size + 1 + 1) := by omega
  have hks2 : w4.heap.size < w5.heap.size + 1 + 1 := by omega
  have hB := hB'; clear hB'
  have hsz := hB.size
  go_wp2_with fail
  ((with_reducible refine (of70 _).mono ?_); rintro _ w6 ⟨rfl, hb⟩)
  have T : w6.cell? ⟨w4.heap.size, 0, none⟩ = some (.int .u8 115) ∧ w6.cell? ⟨w4.heap.size, 1, none⟩ = some (.int .u8 0) ∧ w6.cell? ⟨w4.heap.size, 2, none⟩ = some (.bool false) ∧ w6.cell? ⟨w4.heap.size, 3, none⟩ = some (.bool false) ∧ w6.cell? ⟨w4.heap.size, 4, none⟩ = some (.bool false) ∧ w6.cell? ⟨w4.heap.size, 5, none⟩ = some (.bool false) ∧ w6.cell? ⟨w4.heap.size, 6, none⟩ = some (.bool false) ∧ w6.cell? ⟨w4.heap.size, 7, none⟩ = some (.bool false) ∧ w6.cell? ⟨w4.heap.size, 8, none⟩ = some (.bool false) ∧ w6.cell? ⟨w4.heap.size, 9, none⟩ = some (.bool false) := by
      refine ⟨?_, ?_, ?_, ?_, ?_, ?_, ?_, ?_, ?_, ?_⟩ <;> refine kc hb ?_ <;> (go_simp; first | done | rfl)
  have hz := hb.size
  (try simp only [World.size_alloc, World.size_setCell, World.size_drew] at hz)
  have hls' : w4.heap.size < w6.heap.size := by omega
  have hB' : Below w.heap.size w w6 := by
      refine kb ?_ hb
      go_grown
  clear hs_0 hs_1 hs_2 hs_3 hs_4 hs_5 hs_6 hs_7 hs_8 hs_9 hls hns0 hns1 hks1 hns2 hks2 hB hsz
  clear hb hz
  obtain ⟨hs_0, hs_1, hs_2, hs_3, hs_4, hs_5, hs_6, hs_7, hs_8, hs_9⟩ := T
  have hls := hls'; clear hls'
  have hns0 : ¬ (w4.heap.size = w6.heap.size) := by omega
  have hns1 : ¬ (w4.heap.size = w6.heap.size + 1) := by omega
  have hks1 : w4.heap.size < w6.heap.size + 1 := by omega
  have hns2 : ¬ (w4.heap.size = w6.heap.size + 1 + 1) := by omega
  have hks2 : w4.heap.size < w6.heap.size + 1 + 1 := by omega
  have hB := hB'; clear hB'
  have hsz := hB.size
  go_wp2_with fail
  ((with_reducible refine (yes_c _).mono ?_); rintro _ w7 ⟨rfl, hb⟩)
  have T : w7.cell? ⟨w4.heap.size, 0, none⟩ = some (.int .u8 115) ∧ w7.cell? ⟨w4.heap.size, 1, none⟩ = some (.int .u8 0) ∧ w7.cell? ⟨w4.heap.size, 2, none⟩ = some (.bool false) ∧ w7.cell? ⟨w4.heap.size, 3, none⟩ = some (.bool false) ∧ w7.cell? ⟨w4.heap.size, 4, none⟩ = some (.bool false) ∧ w7.cell? ⟨w4.heap.size, 5, none⟩ = some (.bool false) ∧ w7.cell? ⟨w4.heap.size, 6, none⟩ = some (.bool false) ∧ w7.cell? ⟨w4.heap.size, 7, none⟩ = some (.bool false) ∧ w7.cell? ⟨w4.heap.size, 8, none⟩ = some (.bool false) ∧ w7.cell? ⟨w4.heap.size, 9, none⟩ = some (.bool false) := by
      refine ⟨?_, ?_, ?_, ?_, ?_, ?_, ?_, ?_, ?_, ?_⟩ <;> refine kc hb ?_ <;> (go_simp; first | done | rfl)
  have hz := hb.size
  (try simp only [World.size_alloc, World.size_setCell, World.size_drew] at hz)
  have hls' : w4.heap.size < w7.heap.size := by omega
  have hB' : Below w.heap.size w w7 := by
      refine kb ?_ hb
      go_grown
  clear hs_0 hs_1 hs_2 hs_3 hs_4 hs_5 hs_6 hs_7 hs_8 hs_9 hls hns0 hns1 hks1 hns2 hks2 hB hsz
  clear hb hz
  obtain ⟨hs_0, hs_1, hs_2, hs_3, hs_4, hs_5, hs_6, hs_7, hs_8, hs_9⟩ := T
  have hls := hls'; clear hls'
  have hns0 : ¬ (w4.heap.size = w7.heap.size) := by omega
  have hns1 : ¬ (w4.heap.size = w7.heap.size + 1) := by omega
  have hks1 : w4.heap.size < w7.heap.size + 1 := by omega
  have hns2 : ¬ (w4.heap.size = w7.heap.size + 1 + 1) := by omega
  have hks2 : w4.heap.size < w7.heap.size + 1 + 1 := by omega
  have hB := hB'; clear hB'
  have hsz := hB.size
  go_wp2_with fail
  ((with_reducible refine (yes_c _).mono ?_); rintro _ w8 ⟨rfl, hb⟩)
  have T : w8.cell? ⟨w4.heap.size, 0, none⟩ = some (.int .u8 115) ∧ w8.cell? ⟨w4.heap.size, 1, none⟩ = some (.int .u8 0) ∧ w8.cell? ⟨w4.heap.size, 2, none⟩ = some (.bool false) ∧ w8.cell? ⟨w4.heap.size, 3, none⟩ = some (.bool false) ∧ w8.cell? ⟨w4.heap.size, 4, none⟩ = some (.bool false) ∧ w8.cell? ⟨w4.heap.size, 5, none⟩ = some (.bool false) ∧ w8.cell? ⟨w4.heap.size, 6, none⟩ = some (.bool false) ∧ w8.cell? ⟨w4.heap.size, 7, none⟩ = some (.bool false) ∧ w8.cell? ⟨w4.heap.size, 8, none⟩ = some (.bool false) ∧ w8.cell? ⟨w4.heap.size, 9, none⟩ = some (.bool false) := by
      refine ⟨?_, ?_, ?_, ?_, ?_, ?_, ?_, ?_, ?_, ?_⟩ <;> refine kc hb ?_ <;> (go_simp; first | done | rfl)
  have hz := hb.size
  (try simp only [World.size_alloc, World.size_setCell, World.size_drew] at hz)
  have hls' : w4.heap.size < w8.heap.size := by omega
  have hB' : Below w.heap.size w w8 := by
      refine kb ?_ hb
      go_grown
  clear hs_0 hs_1 hs_2 hs_3 hs_4 hs_5 hs_6 hs_7 hs_8 hs_9 hls hns0 hns1 hks1 hns2 hks2 hB hsz
  clear hb hz
  obtain ⟨hs_0, hs_1, hs_2, hs_3, hs_4, hs_5, hs_6, hs_7, hs_8, hs_9⟩ := T
  have hls := hls'; clear hls'
  have hns0 : ¬ (w4.heap.size = w8.heap.size) := by omega
  have hns1 : ¬ (w4.heap.size = w8.heap.size + 1) := by omega
  have hks1 : w4.heap.size < w8.heap.size + 1 := by omega
  have hns2 : ¬ (w4.heap.size = w8.heap.size + 1 + 1) := by omega
  have hks2 : w4.heap.size < w8.heap.size + 1 + 1 := by omega
  have hB := hB'; clear hB'
  have hsz := hB.size
  go_wp2_with fail
  ((with_reducible refine (add_ex2 _).mono ?_); rintro _ w9 ⟨rfl, hb⟩)
  have T : w9.cell? ⟨w4.heap.size, 0, none⟩ = some (.int .u8 115) ∧ w9.cell? ⟨w4.heap.size, 1, none⟩ = some (.int .u8 0) ∧ w9.cell? ⟨w4.heap.size, 2, none⟩ = some (.bool false) ∧ w9.cell? ⟨w4.heap.size, 3, none⟩ = some (.bool false) ∧ w9.cell? ⟨w4.heap.size, 4, none⟩ = some (.bool false) ∧ w9.cell? ⟨w4.heap.size, 5, none⟩ = some (.bool false) ∧ w9.cell? ⟨w4.heap.size, 6, none⟩ = some (.bool false) ∧ w9.cell? ⟨w4.heap.size, 7, none⟩ = some (.bool false) ∧ w9.cell? ⟨w4.heap.size, 8, none⟩ = some (.bool false) ∧ w9.cell? ⟨w4.heap.size, 9, none⟩ = some (.bool false) := by
      refine ⟨?_, ?_, ?_, ?_, ?_, ?_, ?_, ?_, ?_, ?_⟩ <;> refine kc hb ?_ <;> (go_simp; first | done | rfl)
  have hz := hb.size
  (try simp only [World.size_alloc, World.size_setCell, World.size_drew] at hz)
  have hls' : w4.heap.size < w9.heap.size := by omega
  have hB' : Below w.heap.size w w9 := by
      refine kb ?_ hb
      go_grown
  clear hs_0 hs_1 hs_2 hs_3 hs_4 hs_5 hs_6 hs_7 hs_8 hs_9 hls hns0 hns1 hks1 hns2 hks2 hB hsz
  clear hb hz
  obtain ⟨hs_0, hs_1, hs_2, hs_3, hs_4, hs_5, hs_6, hs_7, hs_8, hs_9⟩ := T
  have hls := hls'; clear hls'
  have hns0 : ¬ (w4.heap.size = w9.heap.size) := by omega
  have hns1 : ¬ (w4.heap.size = w9.heap.size + 1) := by omega
  have hks1 : w4.heap.size < w9.heap.size + 1 := by omega
  have hns2 : ¬ (w4.heap.size = w9.heap.size + 1 + 1) := by omega
  have hks2 : w4.heap.size < w9.heap.size + 1 + 1 := by omega
  have hB := hB'; clear hB'
  have hsz := hB.size
  go_wp2_with fail
  go_ret
  exact ⟨rfl, by go_grown⟩
end Go.Proofs.Ytdmgdldadpkhgaa
