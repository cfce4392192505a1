/-
  SumsSigns returns true: the walk.
-/
import Derived.Test.YtdmgdldadpkhgaaSignV
import Derived.Test.YtdmgdldadpkhgaaAwake2
import Derived.Test.YtdmgdldadpkhgaaSub
set_option linter.unusedSimpArgs false
set_option linter.unusedVariables false
namespace Go.Proofs.Ytdmgdldadpkhgaa
open Go.RowKit

theorem ofX_c (n : Int) (x : BitVec 8) (h : x = BitVec.ofInt 8 n) (w : World) : Calls Try.prog 25 #[.int .i64 n] w fun e w' => e = .returned (TB x 0#8) ∧ Below w.heap.size w w' := by
  subst h; exact of_c n w
theorem hid_none (a : BitVec 8) (d : Bool) : hidT (secT 0#8 0#8 false) a d false = ⟨0#8, false, false, false, false⟩ := by unfold hidT secT; simp; rfl
abbrev VP (s : SV) : Value := .agg #[B8 s.a, B8 0#8, .bool s.n, .bool false, .bool s.v, .bool false, .bool s.z, .bool false, .bool s.c, .bool false]
theorem add_p (x y : BitVec 8) (c : Bool) (w : World) : Calls Try.prog 12 #[TB x 0#8, TB y 0#8, TBit c false, TBit false false] w fun e w' => e = .returned (VP (addV x y c)) ∧ Below w.heap.size w w' :=
  (add_n x 0#8 y 0#8 c false false false w).mono fun _ _ ⟨h1, h2⟩ => ⟨h1.trans (vs_eq rfl (hid_none _ _)), h2⟩
theorem sub_p (x y : BitVec 8) (c : Bool) (w : World) : Calls Try.prog 15 #[TB x 0#8, TB y 0#8, TBit c false, TBit false false] w fun e w' => e = .returned (VP (addV x (~~~y) c)) ∧ Below w.heap.size w w' :=
  (sub_n x 0#8 y 0#8 c false false false w).mono fun _ _ ⟨h1, h2⟩ => ⟨h1.trans (vs_eq rfl (hid_none _ _)), h2⟩
theorem add_q (x y : BitVec 8) (c : Bool) (w : World) : Calls Try.prog 12 #[TB x 0#8, TB y 0#8, TBit c false, TBit true false] w fun e w' => e = .returned (VP (addD x y c)) ∧ Below w.heap.size w w' :=
  (add_n x 0#8 y 0#8 c false true false w).mono fun _ _ ⟨h1, h2⟩ => ⟨h1.trans (vs_eq rfl (hid_none _ _)), h2⟩
theorem sub_q (x y : BitVec 8) (c : Bool) (w : World) : Calls Try.prog 15 #[TB x 0#8, TB y 0#8, TBit c false, TBit true false] w fun e w' => e = .returned (VP (subD x y c)) ∧ Below w.heap.size w w' :=
  (sub_n x 0#8 y 0#8 c false true false w).mono fun _ _ ⟨h1, h2⟩ => ⟨h1.trans (vs_eq rfl (hid_none _ _)), h2⟩

/-- N, by V and the number. -/
theorem n_of {v n : Bool} {S : Int} {b : Bool} (hv : v = b) (hn : (n != v) = decide (S < 0)) : n = (decide (S < 0) != b) := by
  subst hv; rw [← hn]; cases n <;> cases v <;> rfl

set_option maxRecDepth 100000 in
set_option maxHeartbeats 1000000 in
theorem signs_out (m n : Int) (c : Bool) (h : m < -128 ∨ ¬ m < -128 ∧ 127 < m ∨ ¬ m < -128 ∧ ¬ 127 < m ∧ n < -128 ∨ ¬ m < -128 ∧ ¬ 127 < m ∧ ¬ n < -128 ∧ 127 < n) (w : World) :
    Calls Try.prog 10 #[.int .i64 m, .int .i64 n, .bool c] w (LawEnd w) := by
  rcases h with h | ⟨h1, h⟩ | ⟨h1, h2, h⟩ | ⟨h1, h2, h3, h⟩
  all_goals
    go_enter Try.func10, Try.ntmps10
    go_wp2_with fail
    ((with_reducible refine (awake_c _).mono ?_); rintro _ w1 ⟨rfl, hb⟩)
    have hz := hb.size
    (try simp only [World.size_alloc, World.size_setCell, World.size_drew] at hz)
    have hB' : Below w.heap.size w w1 := by
        refine kb ?_ hb
        go_grown
    clear hb hz
    have hB := hB'; clear hB'
    have hsz := hB.size
    go_wp2
    go_ret
    exact ⟨rfl, hB⟩

set_option maxRecDepth 100000 in
set_option maxHeartbeats 8000000 in
theorem signs_false (m n : Int) (h1 : ¬ m < -128) (h2 : ¬ 127 < m) (h3 : ¬ n < -128) (h4 : ¬ 127 < n) (w : World) :
    Calls Try.prog 10 #[.int .i64 m, .int .i64 n, .bool false] w (LawEnd w) := by
  obtain ⟨X, hX⟩ : ∃ X, X = BitVec.ofInt 8 m := ⟨_, rfl⟩
  obtain ⟨Y, hY⟩ : ∃ Y, Y = BitVec.ofInt 8 n := ⟨_, rfl⟩
  have A1 := addV_v m n false (by omega) (by omega) (by omega) (by omega)
  have A2 := nb_sum m n false (by omega) (by omega) (by omega) (by omega)
  have B1 := addV_v m (-n - 1) false (by omega) (by omega) (by omega) (by omega)
  have B2 := nb_sum m (-n - 1) false (by omega) (by omega) (by omega) (by omega)
  rw [← not_ofInt] at B1 B2
  rw [← hX, ← hY] at A1 A2 B1 B2
  have A3 := n_of A1 A2
  have B3 := n_of B1 B2
  clear A2 B2
  rw [show m + n + cnt false = m + n from by simp [cnt]] at A1 A3
  rw [show m + (-n - 1) + cnt false = m - n - 1 from by simp [cnt]; omega] at B1 B3
  obtain ⟨D1, eD1⟩ : ∃ D, decide (m + n < 0) = D := ⟨_, rfl⟩
  obtain ⟨L1, eL1⟩ : ∃ D, decide (m + n < -128) = D := ⟨_, rfl⟩
  obtain ⟨E1, eE1⟩ : ∃ D, decide (127 < m + n) = D := ⟨_, rfl⟩
  obtain ⟨D2, eD2⟩ : ∃ D, decide (m - n - 1 < 0) = D := ⟨_, rfl⟩
  obtain ⟨L2, eL2⟩ : ∃ D, decide (m - n - 1 < -128) = D := ⟨_, rfl⟩
  obtain ⟨E2, eE2⟩ : ∃ D, decide (127 < m - n - 1) = D := ⟨_, rfl⟩
  rw [eL1, eE1] at A1 A3
  rw [eD1] at A3
  rw [eL2, eE2] at B1 B3
  rw [eD2] at B3
  have q0 : ∀ a b : Bool, ((a != b) != b) = a := by decide
  have q1 : ∀ a b : Bool, ((a != b) == b) = !a := by decide
  have HA1 := Lib.hid A1
  have HA3 := Lib.hid A3
  have HB1 := Lib.hid B1
  have HB3 := Lib.hid B3
  clear A1 A3 B1 B3
  have HX := Lib.hid hX
  have HY := Lib.hid hY
  clear hX hY
  go_enter Try.func10, Try.ntmps10
  go_wp2_with fail
  ((with_reducible refine (ofX_c m X HX.out _).mono ?_); rintro _ w1 ⟨rfl, hb⟩)
  have hz := hb.size
  (try simp only [World.size_alloc, World.size_setCell, World.size_drew] at hz)
  have hB' : Below w.heap.size w w1 := by
      refine kb ?_ hb
      go_grown
  clear hb hz
  have hB := hB'; clear hB'
  have hsz := hB.size
  go_wp2_with fail
  ((with_reducible refine (ofX_c n Y HY.out _).mono ?_); rintro _ w2 ⟨rfl, hb⟩)
  have hz := hb.size
  (try simp only [World.size_alloc, World.size_setCell, World.size_drew] at hz)
  have hB' : Below w.heap.size w w2 := by
      refine kb ?_ hb
      go_grown
  clear hB hsz
  clear hb hz
  have hB := hB'; clear hB'
  have hsz := hB.size
  go_wp2_with fail
  ((with_reducible refine (add_p X Y _ _).mono ?_); rintro _ w3 ⟨rfl, hb⟩)
  have hz := hb.size
  (try simp only [World.size_alloc, World.size_setCell, World.size_drew] at hz)
  have hB' : Below w.heap.size w w3 := by
      refine kb ?_ hb
      go_grown
  clear hB hsz
  clear hb hz
  have hB := hB'; clear hB'
  have hsz := hB.size
  go_wp2_with fail
  ((with_reducible refine (ofX_c m X HX.out _).mono ?_); rintro _ w4 ⟨rfl, hb⟩)
  have T : w4.cell? ⟨w3.heap.size, 0, none⟩ = some (B8 (addV X Y false).a) ∧ w4.cell? ⟨w3.heap.size, 1, none⟩ = some (B8 0#8) ∧ w4.cell? ⟨w3.heap.size, 2, none⟩ = some (.bool (addV X Y false).n) ∧ w4.cell? ⟨w3.heap.size, 3, none⟩ = some (.bool false) ∧ w4.cell? ⟨w3.heap.size, 4, none⟩ = some (.bool (addV X Y false).v) ∧ w4.cell? ⟨w3.heap.size, 5, none⟩ = some (.bool false) ∧ w4.cell? ⟨w3.heap.size, 6, none⟩ = some (.bool (addV X Y false).z) ∧ w4.cell? ⟨w3.heap.size, 7, none⟩ = some (.bool false) ∧ w4.cell? ⟨w3.heap.size, 8, none⟩ = some (.bool (addV X Y false).c) ∧ w4.cell? ⟨w3.heap.size, 9, none⟩ = some (.bool false) := by
      refine ⟨?_, ?_, ?_, ?_, ?_, ?_, ?_, ?_, ?_, ?_⟩ <;> refine kc hb ?_ <;> (go_simp; first | done | rfl)
  have hz := hb.size
  (try simp only [World.size_alloc, World.size_setCell, World.size_drew] at hz)
  have hls' : w3.heap.size < w4.heap.size := by omega
  have hB' : Below w.heap.size w w4 := by
      refine kb ?_ hb
      go_grown
  clear hB hsz
  clear hb hz
  obtain ⟨hs_0, hs_1, hs_2, hs_3, hs_4, hs_5, hs_6, hs_7, hs_8, hs_9⟩ := T
  have hls := hls'; clear hls'
  have hns0 : ¬ (w3.heap.size = w4.heap.size) := by omega
  have hns1 : ¬ (w3.heap.size = w4.heap.size + 1) := by omega
  have hks1 : w3.heap.size < w4.heap.size + 1 := by omega
  have hns2 : ¬ (w3.heap.size = w4.heap.size + 1 + 1) := by omega
  have hks2 : w3.heap.size < w4.heap.size + 1 + 1 := by omega
  have hB := hB'; clear hB'
  have hsz := hB.size
  go_wp2_with fail
  ((with_reducible refine (ofX_c n Y HY.out _).mono ?_); rintro _ w5 ⟨rfl, hb⟩)
  have T : w5.cell? ⟨w3.heap.size, 0, none⟩ = some (B8 (addV X Y false).a) ∧ w5.cell? ⟨w3.heap.size, 1, none⟩ = some (B8 0#8) ∧ w5.cell? ⟨w3.heap.size, 2, none⟩ = some (.bool (addV X Y false).n) ∧ w5.cell? ⟨w3.heap.size, 3, none⟩ = some (.bool false) ∧ w5.cell? ⟨w3.heap.size, 4, none⟩ = some (.bool (addV X Y false).v) ∧ w5.cell? ⟨w3.heap.size, 5, none⟩ = some (.bool false) ∧ w5.cell? ⟨w3.heap.size, 6, none⟩ = some (.bool (addV X Y false).z) ∧ w5.cell? ⟨w3.heap.size, 7, none⟩ = some (.bool false) ∧ w5.cell? ⟨w3.heap.size, 8, none⟩ = some (.bool (addV X Y false).c) ∧ w5.cell? ⟨w3.heap.size, 9, none⟩ = some (.bool false) := by
      refine ⟨?_, ?_, ?_, ?_, ?_, ?_, ?_, ?_, ?_, ?_⟩ <;> refine kc hb ?_ <;> (go_simp; first | done | rfl)
  have hz := hb.size
  (try simp only [World.size_alloc, World.size_setCell, World.size_drew] at hz)
  have hls' : w3.heap.size < w5.heap.size := by omega
  have hB' : Below w.heap.size w w5 := by
      refine kb ?_ hb
      go_grown
  clear hs_0 hs_1 hs_2 hs_3 hs_4 hs_5 hs_6 hs_7 hs_8 hs_9 hls hns0 hns1 hks1 hns2 hks2 hB hsz
  clear hb hz
  obtain ⟨hs_0, hs_1, hs_2, hs_3, hs_4, hs_5, hs_6, hs_7, hs_8, hs_9⟩ := T
  have hls := hls'; clear hls'
  have hns0 : ¬ (w3.heap.size = w5.heap.size) := by omega
  have hns1 : ¬ (w3.heap.size = w5.heap.size + 1) := by omega
  have hks1 : w3.heap.size < w5.heap.size + 1 := by omega
  have hns2 : ¬ (w3.heap.size = w5.heap.size + 1 + 1) := by omega
  have hks2 : w3.heap.size < w5.heap.size + 1 + 1 := by omega
  have hB := hB'; clear hB'
  have hsz := hB.size
  go_wp2_with fail
  ((with_reducible refine (sub_p X Y _ _).mono ?_); rintro _ w6 ⟨rfl, hb⟩)
  have T : w6.cell? ⟨w3.heap.size, 0, none⟩ = some (B8 (addV X Y false).a) ∧ w6.cell? ⟨w3.heap.size, 1, none⟩ = some (B8 0#8) ∧ w6.cell? ⟨w3.heap.size, 2, none⟩ = some (.bool (addV X Y false).n) ∧ w6.cell? ⟨w3.heap.size, 3, none⟩ = some (.bool false) ∧ w6.cell? ⟨w3.heap.size, 4, none⟩ = some (.bool (addV X Y false).v) ∧ w6.cell? ⟨w3.heap.size, 5, none⟩ = some (.bool false) ∧ w6.cell? ⟨w3.heap.size, 6, none⟩ = some (.bool (addV X Y false).z) ∧ w6.cell? ⟨w3.heap.size, 7, none⟩ = some (.bool false) ∧ w6.cell? ⟨w3.heap.size, 8, none⟩ = some (.bool (addV X Y false).c) ∧ w6.cell? ⟨w3.heap.size, 9, none⟩ = some (.bool false) := by
      refine ⟨?_, ?_, ?_, ?_, ?_, ?_, ?_, ?_, ?_, ?_⟩ <;> refine kc hb ?_ <;> (go_simp; first | done | rfl)
  have hz := hb.size
  (try simp only [World.size_alloc, World.size_setCell, World.size_drew] at hz)
  have hls' : w3.heap.size < w6.heap.size := by omega
  have hB' : Below w.heap.size w w6 := by
      refine kb ?_ hb
      go_grown
  clear hs_0 hs_1 hs_2 hs_3 hs_4 hs_5 hs_6 hs_7 hs_8 hs_9 hls hns0 hns1 hks1 hns2 hks2 hB hsz
  clear hb hz
  obtain ⟨hs_0, hs_1, hs_2, hs_3, hs_4, hs_5, hs_6, hs_7, hs_8, hs_9⟩ := T
  have hls := hls'; clear hls'
  have hns0 : ¬ (w3.heap.size = w6.heap.size) := by omega
  have hns1 : ¬ (w3.heap.size = w6.heap.size + 1) := by omega
  have hks1 : w3.heap.size < w6.heap.size + 1 := by omega
  have hns2 : ¬ (w3.heap.size = w6.heap.size + 1 + 1) := by omega
  have hks2 : w3.heap.size < w6.heap.size + 1 + 1 := by omega
  have hB := hB'; clear hB'
  have hsz := hB.size
  go_upto_region 10 with fail
  have A1 := HA1.out
  have A3 := HA3.out
  have B1 := HB1.out
  have B3 := HB3.out
  clear HA1 HA3 HB1 HB3 HX HY h1 h2 h3 h4
  refine wp_pin (fun w' => w'.cell? ⟨w3.heap.size, 0, none⟩ = some (B8 (addV X Y false).a) ∧ w'.cell? ⟨w3.heap.size, 1, none⟩ = some (B8 0#8) ∧ w'.cell? ⟨w3.heap.size, 2, none⟩ = some (.bool (D1 != (L1 || E1))) ∧ w'.cell? ⟨w3.heap.size, 3, none⟩ = some (.bool false) ∧ w'.cell? ⟨w3.heap.size, 4, none⟩ = some (.bool (L1 || E1)) ∧ w'.cell? ⟨w3.heap.size, 5, none⟩ = some (.bool false) ∧ w'.cell? ⟨w3.heap.size, 6, none⟩ = some (.bool (addV X Y false).z) ∧ w'.cell? ⟨w3.heap.size, 7, none⟩ = some (.bool false) ∧ w'.cell? ⟨w3.heap.size, 8, none⟩ = some (.bool (addV X Y false).c) ∧ w'.cell? ⟨w3.heap.size, 9, none⟩ = some (.bool false) ∧ w'.cell? ⟨w6.heap.size, 0, none⟩ = some (B8 (addV X (~~~Y) false).a) ∧ w'.cell? ⟨w6.heap.size, 1, none⟩ = some (B8 0#8) ∧ w'.cell? ⟨w6.heap.size, 2, none⟩ = some (.bool (D2 != (L2 || E2))) ∧ w'.cell? ⟨w6.heap.size, 3, none⟩ = some (.bool false) ∧ w'.cell? ⟨w6.heap.size, 4, none⟩ = some (.bool (L2 || E2)) ∧ w'.cell? ⟨w6.heap.size, 5, none⟩ = some (.bool false) ∧ w'.cell? ⟨w6.heap.size, 6, none⟩ = some (.bool (addV X (~~~Y) false).z) ∧ w'.cell? ⟨w6.heap.size, 7, none⟩ = some (.bool false) ∧ w'.cell? ⟨w6.heap.size, 8, none⟩ = some (.bool (addV X (~~~Y) false).c) ∧ w'.cell? ⟨w6.heap.size, 9, none⟩ = some (.bool false) ∧ Below w.heap.size w w') ?_ ?_
  · (try dsimp only)
    refine ⟨?_, ?_, ?_, ?_, ?_, ?_, ?_, ?_, ?_, ?_, ?_, ?_, ?_, ?_, ?_, ?_, ?_, ?_, ?_, ?_, ?_⟩ <;> first | (go_simp; done) | (simp [*]; done) | go_grown
  intro w7 T
  (try dsimp only at T)
  clear hs_0 hs_1 hs_2 hs_3 hs_4 hs_5 hs_6 hs_7 hs_8 hs_9 hls hns0 hns1 hks1 hns2 hks2 hB hsz
  obtain ⟨hsN_0, hsN_1, hsN_2, hsN_3, hsN_4, hsN_5, hsN_6, hsN_7, hsN_8, hsN_9, hdN_0, hdN_1, hdN_2, hdN_3, hdN_4, hdN_5, hdN_6, hdN_7, hdN_8, hdN_9, hB⟩ := T
  have hsz := hB.size
  have hlsN := klt hsN_0
  have hldN := klt hdN_0
  have hnsN0 : ¬ (w3.heap.size = w7.heap.size) := by omega
  have hnsN1 : ¬ (w3.heap.size = w7.heap.size + 1) := by omega
  have hksN1 : w3.heap.size < w7.heap.size + 1 := by omega
  have hnsN2 : ¬ (w3.heap.size = w7.heap.size + 1 + 1) := by omega
  have hksN2 : w3.heap.size < w7.heap.size + 1 + 1 := by omega
  have hndN0 : ¬ (w6.heap.size = w7.heap.size) := by omega
  have hndN1 : ¬ (w6.heap.size = w7.heap.size + 1) := by omega
  have hkdN1 : w6.heap.size < w7.heap.size + 1 := by omega
  have hndN2 : ¬ (w6.heap.size = w7.heap.size + 1 + 1) := by omega
  have hkdN2 : w6.heap.size < w7.heap.size + 1 + 1 := by omega
  clear A1 A3 B1 B3
  go_wp2_with fail
  all_goals
    ((with_reducible refine (awake_c _).mono ?_); rintro _ w8 ⟨rfl, hb⟩)
    have hz := hb.size
    (try simp only [World.size_alloc, World.size_setCell, World.size_drew] at hz)
    have hB' : Below w.heap.size w w8 := by
        refine kb ?_ hb
        go_grown
    clear hsN_0 hsN_1 hsN_2 hsN_3 hsN_4 hsN_5 hsN_6 hsN_7 hsN_8 hsN_9 hdN_0 hdN_1 hdN_2 hdN_3 hdN_4 hdN_5 hdN_6 hdN_7 hdN_8 hdN_9 hB hsz hlsN hldN hnsN0 hnsN1 hksN1 hnsN2 hksN2 hndN0 hndN1 hkdN1 hndN2 hkdN2
    clear hb hz
    have hB := hB'; clear hB'
    have hsz := hB.size
    go_wp2
    go_ret
    exact ⟨by first | rfl | (simp; done) | (simp; omega), hB⟩

set_option maxRecDepth 100000 in
set_option maxHeartbeats 8000000 in
theorem signs_true (m n : Int) (h1 : ¬ m < -128) (h2 : ¬ 127 < m) (h3 : ¬ n < -128) (h4 : ¬ 127 < n) (w : World) :
    Calls Try.prog 10 #[.int .i64 m, .int .i64 n, .bool true] w (LawEnd w) := by
  obtain ⟨X, hX⟩ : ∃ X, X = BitVec.ofInt 8 m := ⟨_, rfl⟩
  obtain ⟨Y, hY⟩ : ∃ Y, Y = BitVec.ofInt 8 n := ⟨_, rfl⟩
  have A1 := addV_v m n true (by omega) (by omega) (by omega) (by omega)
  have A2 := nb_sum m n true (by omega) (by omega) (by omega) (by omega)
  have B1 := addV_v m (-n - 1) true (by omega) (by omega) (by omega) (by omega)
  have B2 := nb_sum m (-n - 1) true (by omega) (by omega) (by omega) (by omega)
  rw [← not_ofInt] at B1 B2
  rw [← hX, ← hY] at A1 A2 B1 B2
  have A3 := n_of A1 A2
  have B3 := n_of B1 B2
  clear A2 B2
  rw [show m + n + cnt true = m + n + 1 from by simp [cnt]] at A1 A3
  rw [show m + (-n - 1) + cnt true = m - n from by simp [cnt]; omega] at B1 B3
  obtain ⟨D1, eD1⟩ : ∃ D, decide (m + n + 1 < 0) = D := ⟨_, rfl⟩
  obtain ⟨L1, eL1⟩ : ∃ D, decide (m + n + 1 < -128) = D := ⟨_, rfl⟩
  obtain ⟨E1, eE1⟩ : ∃ D, decide (127 < m + n + 1) = D := ⟨_, rfl⟩
  obtain ⟨D2, eD2⟩ : ∃ D, decide (m - n < 0) = D := ⟨_, rfl⟩
  obtain ⟨L2, eL2⟩ : ∃ D, decide (m - n < -128) = D := ⟨_, rfl⟩
  obtain ⟨E2, eE2⟩ : ∃ D, decide (127 < m - n) = D := ⟨_, rfl⟩
  rw [eL1, eE1] at A1 A3
  rw [eD1] at A3
  rw [eL2, eE2] at B1 B3
  rw [eD2] at B3
  have q0 : ∀ a b : Bool, ((a != b) != b) = a := by decide
  have q1 : ∀ a b : Bool, ((a != b) == b) = !a := by decide
  have HA1 := Lib.hid A1
  have HA3 := Lib.hid A3
  have HB1 := Lib.hid B1
  have HB3 := Lib.hid B3
  clear A1 A3 B1 B3
  have HX := Lib.hid hX
  have HY := Lib.hid hY
  clear hX hY
  go_enter Try.func10, Try.ntmps10
  go_wp2_with fail
  ((with_reducible refine (ofX_c m X HX.out _).mono ?_); rintro _ w1 ⟨rfl, hb⟩)
  have hz := hb.size
  (try simp only [World.size_alloc, World.size_setCell, World.size_drew] at hz)
  have hB' : Below w.heap.size w w1 := by
      refine kb ?_ hb
      go_grown
  clear hb hz
  have hB := hB'; clear hB'
  have hsz := hB.size
  go_wp2_with fail
  ((with_reducible refine (ofX_c n Y HY.out _).mono ?_); rintro _ w2 ⟨rfl, hb⟩)
  have hz := hb.size
  (try simp only [World.size_alloc, World.size_setCell, World.size_drew] at hz)
  have hB' : Below w.heap.size w w2 := by
      refine kb ?_ hb
      go_grown
  clear hB hsz
  clear hb hz
  have hB := hB'; clear hB'
  have hsz := hB.size
  go_wp2_with fail
  ((with_reducible refine (add_p X Y _ _).mono ?_); rintro _ w3 ⟨rfl, hb⟩)
  have hz := hb.size
  (try simp only [World.size_alloc, World.size_setCell, World.size_drew] at hz)
  have hB' : Below w.heap.size w w3 := by
      refine kb ?_ hb
      go_grown
  clear hB hsz
  clear hb hz
  have hB := hB'; clear hB'
  have hsz := hB.size
  go_wp2_with fail
  ((with_reducible refine (ofX_c m X HX.out _).mono ?_); rintro _ w4 ⟨rfl, hb⟩)
  have T : w4.cell? ⟨w3.heap.size, 0, none⟩ = some (B8 (addV X Y true).a) ∧ w4.cell? ⟨w3.heap.size, 1, none⟩ = some (B8 0#8) ∧ w4.cell? ⟨w3.heap.size, 2, none⟩ = some (.bool (addV X Y true).n) ∧ w4.cell? ⟨w3.heap.size, 3, none⟩ = some (.bool false) ∧ w4.cell? ⟨w3.heap.size, 4, none⟩ = some (.bool (addV X Y true).v) ∧ w4.cell? ⟨w3.heap.size, 5, none⟩ = some (.bool false) ∧ w4.cell? ⟨w3.heap.size, 6, none⟩ = some (.bool (addV X Y true).z) ∧ w4.cell? ⟨w3.heap.size, 7, none⟩ = some (.bool false) ∧ w4.cell? ⟨w3.heap.size, 8, none⟩ = some (.bool (addV X Y true).c) ∧ w4.cell? ⟨w3.heap.size, 9, none⟩ = some (.bool false) := by
      refine ⟨?_, ?_, ?_, ?_, ?_, ?_, ?_, ?_, ?_, ?_⟩ <;> refine kc hb ?_ <;> (go_simp; first | done | rfl)
  have hz := hb.size
  (try simp only [World.size_alloc, World.size_setCell, World.size_drew] at hz)
  have hls' : w3.heap.size < w4.heap.size := by omega
  have hB' : Below w.heap.size w w4 := by
      refine kb ?_ hb
      go_grown
  clear hB hsz
  clear hb hz
  obtain ⟨hs_0, hs_1, hs_2, hs_3, hs_4, hs_5, hs_6, hs_7, hs_8, hs_9⟩ := T
  have hls := hls'; clear hls'
  have hns0 : ¬ (w3.heap.size = w4.heap.size) := by omega
  have hns1 : ¬ (w3.heap.size = w4.heap.size + 1) := by omega
  have hks1 : w3.heap.size < w4.heap.size + 1 := by omega
  have hns2 : ¬ (w3.heap.size = w4.heap.size + 1 + 1) := by omega
  have hks2 : w3.heap.size < w4.heap.size + 1 + 1 := by omega
  have hB := hB'; clear hB'
  have hsz := hB.size
  go_wp2_with fail
  ((with_reducible refine (ofX_c n Y HY.out _).mono ?_); rintro _ w5 ⟨rfl, hb⟩)
  have T : w5.cell? ⟨w3.heap.size, 0, none⟩ = some (B8 (addV X Y true).a) ∧ w5.cell? ⟨w3.heap.size, 1, none⟩ = some (B8 0#8) ∧ w5.cell? ⟨w3.heap.size, 2, none⟩ = some (.bool (addV X Y true).n) ∧ w5.cell? ⟨w3.heap.size, 3, none⟩ = some (.bool false) ∧ w5.cell? ⟨w3.heap.size, 4, none⟩ = some (.bool (addV X Y true).v) ∧ w5.cell? ⟨w3.heap.size, 5, none⟩ = some (.bool false) ∧ w5.cell? ⟨w3.heap.size, 6, none⟩ = some (.bool (addV X Y true).z) ∧ w5.cell? ⟨w3.heap.size, 7, none⟩ = some (.bool false) ∧ w5.cell? ⟨w3.heap.size, 8, none⟩ = some (.bool (addV X Y true).c) ∧ w5.cell? ⟨w3.heap.size, 9, none⟩ = some (.bool false) := by
      refine ⟨?_, ?_, ?_, ?_, ?_, ?_, ?_, ?_, ?_, ?_⟩ <;> refine kc hb ?_ <;> (go_simp; first | done | rfl)
  have hz := hb.size
  (try simp only [World.size_alloc, World.size_setCell, World.size_drew] at hz)
  have hls' : w3.heap.size < w5.heap.size := by omega
  have hB' : Below w.heap.size w w5 := by
      refine kb ?_ hb
      go_grown
  clear hs_0 hs_1 hs_2 hs_3 hs_4 hs_5 hs_6 hs_7 hs_8 hs_9 hls hns0 hns1 hks1 hns2 hks2 hB hsz
  clear hb hz
  obtain ⟨hs_0, hs_1, hs_2, hs_3, hs_4, hs_5, hs_6, hs_7, hs_8, hs_9⟩ := T
  have hls := hls'; clear hls'
  have hns0 : ¬ (w3.heap.size = w5.heap.size) := by omega
  have hns1 : ¬ (w3.heap.size = w5.heap.size + 1) := by omega
  have hks1 : w3.heap.size < w5.heap.size + 1 := by omega
  have hns2 : ¬ (w3.heap.size = w5.heap.size + 1 + 1) := by omega
  have hks2 : w3.heap.size < w5.heap.size + 1 + 1 := by omega
  have hB := hB'; clear hB'
  have hsz := hB.size
  go_wp2_with fail
  ((with_reducible refine (sub_p X Y _ _).mono ?_); rintro _ w6 ⟨rfl, hb⟩)
  have T : w6.cell? ⟨w3.heap.size, 0, none⟩ = some (B8 (addV X Y true).a) ∧ w6.cell? ⟨w3.heap.size, 1, none⟩ = some (B8 0#8) ∧ w6.cell? ⟨w3.heap.size, 2, none⟩ = some (.bool (addV X Y true).n) ∧ w6.cell? ⟨w3.heap.size, 3, none⟩ = some (.bool false) ∧ w6.cell? ⟨w3.heap.size, 4, none⟩ = some (.bool (addV X Y true).v) ∧ w6.cell? ⟨w3.heap.size, 5, none⟩ = some (.bool false) ∧ w6.cell? ⟨w3.heap.size, 6, none⟩ = some (.bool (addV X Y true).z) ∧ w6.cell? ⟨w3.heap.size, 7, none⟩ = some (.bool false) ∧ w6.cell? ⟨w3.heap.size, 8, none⟩ = some (.bool (addV X Y true).c) ∧ w6.cell? ⟨w3.heap.size, 9, none⟩ = some (.bool false) := by
      refine ⟨?_, ?_, ?_, ?_, ?_, ?_, ?_, ?_, ?_, ?_⟩ <;> refine kc hb ?_ <;> (go_simp; first | done | rfl)
  have hz := hb.size
  (try simp only [World.size_alloc, World.size_setCell, World.size_drew] at hz)
  have hls' : w3.heap.size < w6.heap.size := by omega
  have hB' : Below w.heap.size w w6 := by
      refine kb ?_ hb
      go_grown
  clear hs_0 hs_1 hs_2 hs_3 hs_4 hs_5 hs_6 hs_7 hs_8 hs_9 hls hns0 hns1 hks1 hns2 hks2 hB hsz
  clear hb hz
  obtain ⟨hs_0, hs_1, hs_2, hs_3, hs_4, hs_5, hs_6, hs_7, hs_8, hs_9⟩ := T
  have hls := hls'; clear hls'
  have hns0 : ¬ (w3.heap.size = w6.heap.size) := by omega
  have hns1 : ¬ (w3.heap.size = w6.heap.size + 1) := by omega
  have hks1 : w3.heap.size < w6.heap.size + 1 := by omega
  have hns2 : ¬ (w3.heap.size = w6.heap.size + 1 + 1) := by omega
  have hks2 : w3.heap.size < w6.heap.size + 1 + 1 := by omega
  have hB := hB'; clear hB'
  have hsz := hB.size
  go_upto_region 10 with fail
  have A1 := HA1.out
  have A3 := HA3.out
  have B1 := HB1.out
  have B3 := HB3.out
  clear HA1 HA3 HB1 HB3 HX HY h1 h2 h3 h4
  refine wp_pin (fun w' => w'.cell? ⟨w3.heap.size, 0, none⟩ = some (B8 (addV X Y true).a) ∧ w'.cell? ⟨w3.heap.size, 1, none⟩ = some (B8 0#8) ∧ w'.cell? ⟨w3.heap.size, 2, none⟩ = some (.bool (D1 != (L1 || E1))) ∧ w'.cell? ⟨w3.heap.size, 3, none⟩ = some (.bool false) ∧ w'.cell? ⟨w3.heap.size, 4, none⟩ = some (.bool (L1 || E1)) ∧ w'.cell? ⟨w3.heap.size, 5, none⟩ = some (.bool false) ∧ w'.cell? ⟨w3.heap.size, 6, none⟩ = some (.bool (addV X Y true).z) ∧ w'.cell? ⟨w3.heap.size, 7, none⟩ = some (.bool false) ∧ w'.cell? ⟨w3.heap.size, 8, none⟩ = some (.bool (addV X Y true).c) ∧ w'.cell? ⟨w3.heap.size, 9, none⟩ = some (.bool false) ∧ w'.cell? ⟨w6.heap.size, 0, none⟩ = some (B8 (addV X (~~~Y) true).a) ∧ w'.cell? ⟨w6.heap.size, 1, none⟩ = some (B8 0#8) ∧ w'.cell? ⟨w6.heap.size, 2, none⟩ = some (.bool (D2 != (L2 || E2))) ∧ w'.cell? ⟨w6.heap.size, 3, none⟩ = some (.bool false) ∧ w'.cell? ⟨w6.heap.size, 4, none⟩ = some (.bool (L2 || E2)) ∧ w'.cell? ⟨w6.heap.size, 5, none⟩ = some (.bool false) ∧ w'.cell? ⟨w6.heap.size, 6, none⟩ = some (.bool (addV X (~~~Y) true).z) ∧ w'.cell? ⟨w6.heap.size, 7, none⟩ = some (.bool false) ∧ w'.cell? ⟨w6.heap.size, 8, none⟩ = some (.bool (addV X (~~~Y) true).c) ∧ w'.cell? ⟨w6.heap.size, 9, none⟩ = some (.bool false) ∧ Below w.heap.size w w') ?_ ?_
  · (try dsimp only)
    refine ⟨?_, ?_, ?_, ?_, ?_, ?_, ?_, ?_, ?_, ?_, ?_, ?_, ?_, ?_, ?_, ?_, ?_, ?_, ?_, ?_, ?_⟩ <;> first | (go_simp; done) | (simp [*]; done) | go_grown
  intro w7 T
  (try dsimp only at T)
  clear hs_0 hs_1 hs_2 hs_3 hs_4 hs_5 hs_6 hs_7 hs_8 hs_9 hls hns0 hns1 hks1 hns2 hks2 hB hsz
  obtain ⟨hsN_0, hsN_1, hsN_2, hsN_3, hsN_4, hsN_5, hsN_6, hsN_7, hsN_8, hsN_9, hdN_0, hdN_1, hdN_2, hdN_3, hdN_4, hdN_5, hdN_6, hdN_7, hdN_8, hdN_9, hB⟩ := T
  have hsz := hB.size
  have hlsN := klt hsN_0
  have hldN := klt hdN_0
  have hnsN0 : ¬ (w3.heap.size = w7.heap.size) := by omega
  have hnsN1 : ¬ (w3.heap.size = w7.heap.size + 1) := by omega
  have hksN1 : w3.heap.size < w7.heap.size + 1 := by omega
  have hnsN2 : ¬ (w3.heap.size = w7.heap.size + 1 + 1) := by omega
  have hksN2 : w3.heap.size < w7.heap.size + 1 + 1 := by omega
  have hndN0 : ¬ (w6.heap.size = w7.heap.size) := by omega
  have hndN1 : ¬ (w6.heap.size = w7.heap.size + 1) := by omega
  have hkdN1 : w6.heap.size < w7.heap.size + 1 := by omega
  have hndN2 : ¬ (w6.heap.size = w7.heap.size + 1 + 1) := by omega
  have hkdN2 : w6.heap.size < w7.heap.size + 1 + 1 := by omega
  clear A1 A3 B1 B3
  go_wp2_with fail
  all_goals
    ((with_reducible refine (awake_c _).mono ?_); rintro _ w8 ⟨rfl, hb⟩)
    have hz := hb.size
    (try simp only [World.size_alloc, World.size_setCell, World.size_drew] at hz)
    have hB' : Below w.heap.size w w8 := by
        refine kb ?_ hb
        go_grown
    clear hsN_0 hsN_1 hsN_2 hsN_3 hsN_4 hsN_5 hsN_6 hsN_7 hsN_8 hsN_9 hdN_0 hdN_1 hdN_2 hdN_3 hdN_4 hdN_5 hdN_6 hdN_7 hdN_8 hdN_9 hB hsz hlsN hldN hnsN0 hnsN1 hksN1 hnsN2 hksN2 hndN0 hndN1 hkdN1 hndN2 hkdN2
    clear hb hz
    have hB := hB'; clear hB'
    have hsz := hB.size
    go_wp2
    go_ret
    exact ⟨by first | rfl | (simp; done) | (simp; omega), hB⟩

theorem signs_walk (m : Int) (hl : -9223372036854775808 ≤ m) (hh : m ≤ 9223372036854775807) (n : Int) (hl' : -9223372036854775808 ≤ n) (hh' : n ≤ 9223372036854775807) (c : Bool) (w : World) :
    Calls Try.prog 10 #[.int .i64 m, .int .i64 n, .bool c] w (LawEnd w) := by
  by_cases h : m < -128 ∨ ¬ m < -128 ∧ 127 < m ∨ ¬ m < -128 ∧ ¬ 127 < m ∧ n < -128 ∨ ¬ m < -128 ∧ ¬ 127 < m ∧ ¬ n < -128 ∧ 127 < n
  · exact signs_out m n c h w
  · cases c
    · exact signs_false m n (by omega) (by omega) (by omega) (by omega) w
    · exact signs_true m n (by omega) (by omega) (by omega) (by omega) w
end Go.Proofs.Ytdmgdldadpkhgaa
