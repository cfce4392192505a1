/-
  What the inner calls of the laws of sums come to.
-/
import Derived.Test.YtdmgdldadpkhgaaKeepV
set_option linter.unusedSimpArgs false
set_option linter.unusedVariables false
namespace Go.Proofs.Ytdmgdldadpkhgaa
open Go.RowKit

set_option maxHeartbeats 400000 in
theorem other_c (x t p : BitVec 8) (w : World) : Calls Try.prog 21 #[TB x t, B8 p] w fun e w' => e = .returned (TB (oth x t p) t) ∧ Below w.heap.size w w' := by
  have h1 := u8_and
  have h2 := u8_xor
  go_enter Try.func21, Try.ntmps21
  go_wp2
  refine bodyPost_ret (v := TB _ _) (by simp [results, Try.results21, go_sem, oth] <;> first | done | rfl | exact dec_eq Iff.rfl) rfl ⟨rfl, by go_grown⟩
theorem tm2 (p : BitVec 8) : ((u8 p).tmod 2 == 1) = odd p := by rw [Int.tmod_eq_emod_of_nonneg (u8_lo p)]; rfl
set_option maxHeartbeats 400000 in
theorem bit_c (v t : Bool) (p : BitVec 8) (w : World) : Calls Try.prog 22 #[TBit v t, B8 p] w fun e w' => e = .returned (TBit (obit v t p) t) ∧ Below w.heap.size w w' := by
  have h0 := u8_lo p
  have h1 := u8_hi p
  have h2 : (u8 p % 2 == 1) = odd p := rfl
  have h3 := tm2 p
  cases v <;> cases t
  all_goals
    go_enter Try.func22, Try.ntmps22
    go_wp2
    refine bodyPost_ret (v := TBit _ _) (by simp [results, Try.results22, go_sem, obit, odd] <;> first | done | rfl | exact dec_eq Iff.rfl) rfl ⟨rfl, by go_grown⟩
set_option maxHeartbeats 400000 in
theorem alike_yes (a b t : Bool) (h : (t || a == b) = true) (w : World) : Calls Try.prog 42 #[TBit a t, TBit b t] w fun e w' => e = .returned (.bool true) ∧ Below w.heap.size w w' := by
  cases t
  · have : a = b := by simpa using h
    subst this
    go_enter Try.func42, Try.ntmps42
    go_wp2
    go_ret
    exact ⟨by simp, by go_grown⟩
  · go_enter Try.func42, Try.ntmps42
    go_wp2
    go_ret
    exact ⟨by simp, by go_grown⟩
set_option maxRecDepth 100000 in
set_option maxHeartbeats 2000000 in
theorem keeps_yes (s s' : SV) (t : ST) (h : Keeps s s' t) (w : World) : Calls Try.prog 23 #[VS s t, VS s' t] w fun e w' => e = .returned (.bool true) ∧ Below w.heap.size w w' := by
  obtain ⟨h0, h1, h2, h3, h4⟩ := h
  have H1 := Lib.hid h1
  have H2 := Lib.hid h2
  have H3 := Lib.hid h3
  have H4 := Lib.hid h4
  have H0 := Lib.hid h0
  clear h0 h1 h2 h3 h4
  go_enter Try.func23, Try.ntmps23
  go_wp2_with fail
  ((with_reducible refine (same_yes _ _ _ H0.out _).mono ?_); rintro _ w1 ⟨rfl, hb⟩)
  have T : w1.cell? ⟨w.heap.size, 0, none⟩ = some (B8 s.a) ∧ w1.cell? ⟨w.heap.size, 1, none⟩ = some (B8 t.t) ∧ w1.cell? ⟨w.heap.size, 2, none⟩ = some (.bool s.n) ∧ w1.cell? ⟨w.heap.size, 3, none⟩ = some (.bool t.n) ∧ w1.cell? ⟨w.heap.size, 4, none⟩ = some (.bool s.v) ∧ w1.cell? ⟨w.heap.size, 5, none⟩ = some (.bool t.v) ∧ w1.cell? ⟨w.heap.size, 6, none⟩ = some (.bool s.z) ∧ w1.cell? ⟨w.heap.size, 7, none⟩ = some (.bool t.z) ∧ w1.cell? ⟨w.heap.size, 8, none⟩ = some (.bool s.c) ∧ w1.cell? ⟨w.heap.size, 9, none⟩ = some (.bool t.c) ∧ w1.cell? ⟨w.heap.size + 1, 0, none⟩ = some (B8 s'.a) ∧ w1.cell? ⟨w.heap.size + 1, 1, none⟩ = some (B8 t.t) ∧ w1.cell? ⟨w.heap.size + 1, 2, none⟩ = some (.bool s'.n) ∧ w1.cell? ⟨w.heap.size + 1, 3, none⟩ = some (.bool t.n) ∧ w1.cell? ⟨w.heap.size + 1, 4, none⟩ = some (.bool s'.v) ∧ w1.cell? ⟨w.heap.size + 1, 5, none⟩ = some (.bool t.v) ∧ w1.cell? ⟨w.heap.size + 1, 6, none⟩ = some (.bool s'.z) ∧ w1.cell? ⟨w.heap.size + 1, 7, none⟩ = some (.bool t.z) ∧ w1.cell? ⟨w.heap.size + 1, 8, none⟩ = some (.bool s'.c) ∧ w1.cell? ⟨w.heap.size + 1, 9, none⟩ = some (.bool t.c) := by
      refine ⟨?_, ?_, ?_, ?_, ?_, ?_, ?_, ?_, ?_, ?_, ?_, ?_, ?_, ?_, ?_, ?_, ?_, ?_, ?_, ?_⟩ <;> refine kc hb ?_ <;> (go_simp; first | done | rfl)
  have hz := hb.size
  (try simp only [World.size_alloc, World.size_setCell, World.size_drew] at hz)
  have hla' : w.heap.size < w1.heap.size := by omega
  have hlb' : w.heap.size + 1 < w1.heap.size := by omega
  have hB' : Below w.heap.size w w1 := by
      refine kb ?_ hb
      go_grown
  clear hb hz
  obtain ⟨ha_0, ha_1, ha_2, ha_3, ha_4, ha_5, ha_6, ha_7, ha_8, ha_9, hb_0, hb_1, hb_2, hb_3, hb_4, hb_5, hb_6, hb_7, hb_8, hb_9⟩ := T
  have hla := hla'; clear hla'
  have hlb := hlb'; clear hlb'
  have hna0 : ¬ (w.heap.size = w1.heap.size) := by omega
  have hna1 : ¬ (w.heap.size = w1.heap.size + 1) := by omega
  have hka1 : w.heap.size < w1.heap.size + 1 := by omega
  have hna2 : ¬ (w.heap.size = w1.heap.size + 1 + 1) := by omega
  have hka2 : w.heap.size < w1.heap.size + 1 + 1 := by omega
  have hnb0 : ¬ (w.heap.size + 1 = w1.heap.size) := by omega
  have hkb1 : w.heap.size < w1.heap.size := by omega
  have hB := hB'; clear hB'
  have hsz := hB.size
  go_wp2_with fail
  ((with_reducible refine (alike_yes _ _ _ H1.out _).mono ?_); rintro _ w2 ⟨rfl, hb⟩)
  have T : w2.cell? ⟨w.heap.size, 0, none⟩ = some (B8 s.a) ∧ w2.cell? ⟨w.heap.size, 1, none⟩ = some (B8 t.t) ∧ w2.cell? ⟨w.heap.size, 2, none⟩ = some (.bool s.n) ∧ w2.cell? ⟨w.heap.size, 3, none⟩ = some (.bool t.n) ∧ w2.cell? ⟨w.heap.size, 4, none⟩ = some (.bool s.v) ∧ w2.cell? ⟨w.heap.size, 5, none⟩ = some (.bool t.v) ∧ w2.cell? ⟨w.heap.size, 6, none⟩ = some (.bool s.z) ∧ w2.cell? ⟨w.heap.size, 7, none⟩ = some (.bool t.z) ∧ w2.cell? ⟨w.heap.size, 8, none⟩ = some (.bool s.c) ∧ w2.cell? ⟨w.heap.size, 9, none⟩ = some (.bool t.c) ∧ w2.cell? ⟨w.heap.size + 1, 0, none⟩ = some (B8 s'.a) ∧ w2.cell? ⟨w.heap.size + 1, 1, none⟩ = some (B8 t.t) ∧ w2.cell? ⟨w.heap.size + 1, 2, none⟩ = some (.bool s'.n) ∧ w2.cell? ⟨w.heap.size + 1, 3, none⟩ = some (.bool t.n) ∧ w2.cell? ⟨w.heap.size + 1, 4, none⟩ = some (.bool s'.v) ∧ w2.cell? ⟨w.heap.size + 1, 5, none⟩ = some (.bool t.v) ∧ w2.cell? ⟨w.heap.size + 1, 6, none⟩ = some (.bool s'.z) ∧ w2.cell? ⟨w.heap.size + 1, 7, none⟩ = some (.bool t.z) ∧ w2.cell? ⟨w.heap.size + 1, 8, none⟩ = some (.bool s'.c) ∧ w2.cell? ⟨w.heap.size + 1, 9, none⟩ = some (.bool t.c) := by
      refine ⟨?_, ?_, ?_, ?_, ?_, ?_, ?_, ?_, ?_, ?_, ?_, ?_, ?_, ?_, ?_, ?_, ?_, ?_, ?_, ?_⟩ <;> refine kc hb ?_ <;> (go_simp; first | done | rfl)
  have hz := hb.size
  (try simp only [World.size_alloc, World.size_setCell, World.size_drew] at hz)
  have hla' : w.heap.size < w2.heap.size := by omega
  have hlb' : w.heap.size + 1 < w2.heap.size := by omega
  have hB' : Below w.heap.size w w2 := by
      refine kb ?_ hb
      go_grown
  clear ha_0 ha_1 ha_2 ha_3 ha_4 ha_5 ha_6 ha_7 ha_8 ha_9 hb_0 hb_1 hb_2 hb_3 hb_4 hb_5 hb_6 hb_7 hb_8 hb_9 hla hlb hna0 hna1 hka1 hna2 hka2 hnb0 hkb1 hB hsz
  clear hb hz
  obtain ⟨ha_0, ha_1, ha_2, ha_3, ha_4, ha_5, ha_6, ha_7, ha_8, ha_9, hb_0, hb_1, hb_2, hb_3, hb_4, hb_5, hb_6, hb_7, hb_8, hb_9⟩ := T
  have hla := hla'; clear hla'
  have hlb := hlb'; clear hlb'
  have hna0 : ¬ (w.heap.size = w2.heap.size) := by omega
  have hna1 : ¬ (w.heap.size = w2.heap.size + 1) := by omega
  have hka1 : w.heap.size < w2.heap.size + 1 := by omega
  have hna2 : ¬ (w.heap.size = w2.heap.size + 1 + 1) := by omega
  have hka2 : w.heap.size < w2.heap.size + 1 + 1 := by omega
  have hnb0 : ¬ (w.heap.size + 1 = w2.heap.size) := by omega
  have hkb1 : w.heap.size < w2.heap.size := by omega
  have hB := hB'; clear hB'
  have hsz := hB.size
  go_wp2_with fail
  ((with_reducible refine (alike_yes _ _ _ H2.out _).mono ?_); rintro _ w3 ⟨rfl, hb⟩)
  have T : w3.cell? ⟨w.heap.size, 0, none⟩ = some (B8 s.a) ∧ w3.cell? ⟨w.heap.size, 1, none⟩ = some (B8 t.t) ∧ w3.cell? ⟨w.heap.size, 2, none⟩ = some (.bool s.n) ∧ w3.cell? ⟨w.heap.size, 3, none⟩ = some (.bool t.n) ∧ w3.cell? ⟨w.heap.size, 4, none⟩ = some (.bool s.v) ∧ w3.cell? ⟨w.heap.size, 5, none⟩ = some (.bool t.v) ∧ w3.cell? ⟨w.heap.size, 6, none⟩ = some (.bool s.z) ∧ w3.cell? ⟨w.heap.size, 7, none⟩ = some (.bool t.z) ∧ w3.cell? ⟨w.heap.size, 8, none⟩ = some (.bool s.c) ∧ w3.cell? ⟨w.heap.size, 9, none⟩ = some (.bool t.c) ∧ w3.cell? ⟨w.heap.size + 1, 0, none⟩ = some (B8 s'.a) ∧ w3.cell? ⟨w.heap.size + 1, 1, none⟩ = some (B8 t.t) ∧ w3.cell? ⟨w.heap.size + 1, 2, none⟩ = some (.bool s'.n) ∧ w3.cell? ⟨w.heap.size + 1, 3, none⟩ = some (.bool t.n) ∧ w3.cell? ⟨w.heap.size + 1, 4, none⟩ = some (.bool s'.v) ∧ w3.cell? ⟨w.heap.size + 1, 5, none⟩ = some (.bool t.v) ∧ w3.cell? ⟨w.heap.size + 1, 6, none⟩ = some (.bool s'.z) ∧ w3.cell? ⟨w.heap.size + 1, 7, none⟩ = some (.bool t.z) ∧ w3.cell? ⟨w.heap.size + 1, 8, none⟩ = some (.bool s'.c) ∧ w3.cell? ⟨w.heap.size + 1, 9, none⟩ = some (.bool t.c) := by
      refine ⟨?_, ?_, ?_, ?_, ?_, ?_, ?_, ?_, ?_, ?_, ?_, ?_, ?_, ?_, ?_, ?_, ?_, ?_, ?_, ?_⟩ <;> refine kc hb ?_ <;> (go_simp; first | done | rfl)
  have hz := hb.size
  (try simp only [World.size_alloc, World.size_setCell, World.size_drew] at hz)
  have hla' : w.heap.size < w3.heap.size := by omega
  have hlb' : w.heap.size + 1 < w3.heap.size := by omega
  have hB' : Below w.heap.size w w3 := by
      refine kb ?_ hb
      go_grown
  clear ha_0 ha_1 ha_2 ha_3 ha_4 ha_5 ha_6 ha_7 ha_8 ha_9 hb_0 hb_1 hb_2 hb_3 hb_4 hb_5 hb_6 hb_7 hb_8 hb_9 hla hlb hna0 hna1 hka1 hna2 hka2 hnb0 hkb1 hB hsz
  clear hb hz
  obtain ⟨ha_0, ha_1, ha_2, ha_3, ha_4, ha_5, ha_6, ha_7, ha_8, ha_9, hb_0, hb_1, hb_2, hb_3, hb_4, hb_5, hb_6, hb_7, hb_8, hb_9⟩ := T
  have hla := hla'; clear hla'
  have hlb := hlb'; clear hlb'
  have hna0 : ¬ (w.heap.size = w3.heap.size) := by omega
  have hna1 : ¬ (w.heap.size = w3.heap.size + 1) := by omega
  have hka1 : w.heap.size < w3.heap.size + 1 := by omega
  have hna2 : ¬ (w.heap.size = w3.heap.size + 1 + 1) := by omega
  have hka2 : w.heap.size < w3.heap.size + 1 + 1 := by omega
  have hnb0 : ¬ (w.heap.size + 1 = w3.heap.size) := by omega
  have hkb1 : w.heap.size < w3.heap.size := by omega
  have hB := hB'; clear hB'
  have hsz := hB.size
  go_wp2_with fail
  ((with_reducible refine (alike_yes _ _ _ H3.out _).mono ?_); rintro _ w4 ⟨rfl, hb⟩)
  have T : w4.cell? ⟨w.heap.size, 0, none⟩ = some (B8 s.a) ∧ w4.cell? ⟨w.heap.size, 1, none⟩ = some (B8 t.t) ∧ w4.cell? ⟨w.heap.size, 2, none⟩ = some (.bool s.n) ∧ w4.cell? ⟨w.heap.size, 3, none⟩ = some (.bool t.n) ∧ w4.cell? ⟨w.heap.size, 4, none⟩ = some (.bool s.v) ∧ w4.cell? ⟨w.heap.size, 5, none⟩ = some (.bool t.v) ∧ w4.cell? ⟨w.heap.size, 6, none⟩ = some (.bool s.z) ∧ w4.cell? ⟨w.heap.size, 7, none⟩ = some (.bool t.z) ∧ w4.cell? ⟨w.heap.size, 8, none⟩ = some (.bool s.c) ∧ w4.cell? ⟨w.heap.size, 9, none⟩ = some (.bool t.c) ∧ w4.cell? ⟨w.heap.size + 1, 0, none⟩ = some (B8 s'.a) ∧ w4.cell? ⟨w.heap.size + 1, 1, none⟩ = some (B8 t.t) ∧ w4.cell? ⟨w.heap.size + 1, 2, none⟩ = some (.bool s'.n) ∧ w4.cell? ⟨w.heap.size + 1, 3, none⟩ = some (.bool t.n) ∧ w4.cell? ⟨w.heap.size + 1, 4, none⟩ = some (.bool s'.v) ∧ w4.cell? ⟨w.heap.size + 1, 5, none⟩ = some (.bool t.v) ∧ w4.cell? ⟨w.heap.size + 1, 6, none⟩ = some (.bool s'.z) ∧ w4.cell? ⟨w.heap.size + 1, 7, none⟩ = some (.bool t.z) ∧ w4.cell? ⟨w.heap.size + 1, 8, none⟩ = some (.bool s'.c) ∧ w4.cell? ⟨w.heap.size + 1, 9, none⟩ = some (.bool t.c) := by
      refine ⟨?_, ?_, ?_, ?_, ?_, ?_, ?_, ?_, ?_, ?_, ?_, ?_, ?_, ?_, ?_, ?_, ?_, ?_, ?_, ?_⟩ <;> refine kc hb ?_ <;> (go_simp; first | done | rfl)
  have hz := hb.size
  (try simp only [World.size_alloc, World.size_setCell, World.size_drew] at hz)
  have hla' : w.heap.size < w4.heap.size := by omega
  have hlb' : w.heap.size + 1 < w4.heap.size := by omega
  have hB' : Below w.heap.size w w4 := by
      refine kb ?_ hb
      go_grown
  clear ha_0 ha_1 ha_2 ha_3 ha_4 ha_5 ha_6 ha_7 ha_8 ha_9 hb_0 hb_1 hb_2 hb_3 hb_4 hb_5 hb_6 hb_7 hb_8 hb_9 hla hlb hna0 hna1 hka1 hna2 hka2 hnb0 hkb1 hB hsz
  clear hb hz
  obtain ⟨ha_0, ha_1, ha_2, ha_3, ha_4, ha_5, ha_6, ha_7, ha_8, ha_9, hb_0, hb_1, hb_2, hb_3, hb_4, hb_5, hb_6, hb_7, hb_8, hb_9⟩ := T
  have hla := hla'; clear hla'
  have hlb := hlb'; clear hlb'
  have hna0 : ¬ (w.heap.size = w4.heap.size) := by omega
  have hna1 : ¬ (w.heap.size = w4.heap.size + 1) := by omega
  have hka1 : w.heap.size < w4.heap.size + 1 := by omega
  have hna2 : ¬ (w.heap.size = w4.heap.size + 1 + 1) := by omega
  have hka2 : w.heap.size < w4.heap.size + 1 + 1 := by omega
  have hnb0 : ¬ (w.heap.size + 1 = w4.heap.size) := by omega
  have hkb1 : w.heap.size < w4.heap.size := by omega
  have hB := hB'; clear hB'
  have hsz := hB.size
  go_wp2_with fail
  ((with_reducible refine (alike_yes _ _ _ H4.out _).mono ?_); rintro _ w5 ⟨rfl, hb⟩)
  have T : w5.cell? ⟨w.heap.size, 0, none⟩ = some (B8 s.a) ∧ w5.cell? ⟨w.heap.size, 1, none⟩ = some (B8 t.t) ∧ w5.cell? ⟨w.heap.size, 2, none⟩ = some (.bool s.n) ∧ w5.cell? ⟨w.heap.size, 3, none⟩ = some (.bool t.n) ∧ w5.cell? ⟨w.heap.size, 4, none⟩ = some (.bool s.v) ∧ w5.cell? ⟨w.heap.size, 5, none⟩ = some (.bool t.v) ∧ w5.cell? ⟨w.heap.size, 6, none⟩ = some (.bool s.z) ∧ w5.cell? ⟨w.heap.size, 7, none⟩ = some (.bool t.z) ∧ w5.cell? ⟨w.heap.size, 8, none⟩ = some (.bool s.c) ∧ w5.cell? ⟨w.heap.size, 9, none⟩ = some (.bool t.c) ∧ w5.cell? ⟨w.heap.size + 1, 0, none⟩ = some (B8 s'.a) ∧ w5.cell? ⟨w.heap.size + 1, 1, none⟩ = some (B8 t.t) ∧ w5.cell? ⟨w.heap.size + 1, 2, none⟩ = some (.bool s'.n) ∧ w5.cell? ⟨w.heap.size + 1, 3, none⟩ = some (.bool t.n) ∧ w5.cell? ⟨w.heap.size + 1, 4, none⟩ = some (.bool s'.v) ∧ w5.cell? ⟨w.heap.size + 1, 5, none⟩ = some (.bool t.v) ∧ w5.cell? ⟨w.heap.size + 1, 6, none⟩ = some (.bool s'.z) ∧ w5.cell? ⟨w.heap.size + 1, 7, none⟩ = some (.bool t.z) ∧ w5.cell? ⟨w.heap.size + 1, 8, none⟩ = some (.bool s'.c) ∧ w5.cell? ⟨w.heap.size + 1, 9, none⟩ = some (.bool t.c) := by
      refine ⟨?_, ?_, ?_, ?_, ?_, ?_, ?_, ?_, ?_, ?_, ?_, ?_, ?_, ?_, ?_, ?_, ?_, ?_, ?_, ?_⟩ <;> refine kc hb ?_ <;> (go_simp; first | done | rfl)
  have hz := hb.size
  (try simp only [World.size_alloc, World.size_setCell, World.size_drew] at hz)
  have hla' : w.heap.size < w5.heap.size := by omega
  have hlb' : w.heap.size + 1 < w5.heap.size := by omega
  have hB' : Below w.heap.size w w5 := by
      refine kb ?_ hb
      go_grown
  clear ha_0 ha_1 ha_2 ha_3 ha_4 ha_5 ha_6 ha_7 ha_8 ha_9 hb_0 hb_1 hb_2 hb_3 hb_4 hb_5 hb_6 hb_7 hb_8 hb_9 hla hlb hna0 hna1 hka1 hna2 hka2 hnb0 hkb1 hB hsz
  clear hb hz
  obtain ⟨ha_0, ha_1, ha_2, ha_3, ha_4, ha_5, ha_6, ha_7, ha_8, ha_9, hb_0, hb_1, hb_2, hb_3, hb_4, hb_5, hb_6, hb_7, hb_8, hb_9⟩ := T
  have hla := hla'; clear hla'
  have hlb := hlb'; clear hlb'
  have hna0 : ¬ (w.heap.size = w5.heap.size) := by omega
  have hna1 : ¬ (w.heap.size = w5.heap.size + 1) := by omega
  have hka1 : w.heap.size < w5.heap.size + 1 := by omega
  have hna2 : ¬ (w.heap.size = w5.heap.size + 1 + 1) := by omega
  have hka2 : w.heap.size < w5.heap.size + 1 + 1 := by omega
  have hnb0 : ¬ (w.heap.size + 1 = w5.heap.size) := by omega
  have hkb1 : w.heap.size < w5.heap.size := by omega
  have hB := hB'; clear hB'
  have hsz := hB.size
  go_wp2_with fail
  go_ret
  exact ⟨by simp, hB⟩
end Go.Proofs.Ytdmgdldadpkhgaa
