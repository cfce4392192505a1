/-
  Layer 5, the program's table: what stands around a number behind a name, and how many digits it has, by modes.
  strconv.FormatInt at base 16: the library's own text walked, at numbers below 2^20.
  Layer 5, the program: a number with what is around it; what is wrong with a line.
  Layer 5, the program: what is wrong with a line.
  Layer 5, the program: Print.
-/
import Derived.Test.YtpjpoopgafcedaaGreatDoorDigs
import Derived.Test.YtpjpoopgafcedaaGreatDoorHeld
import Derived.Laws.Bits64b
import Derived.Laws.Rows
import Derived.Test.YtpjpoopgafcedaaGreatDoorShelf
import Derived.Test.YtpjpoopgafcedaaGreatDoorOf
import Derived.Test.YtpjpoopgafcedaaGreatDoorText
import Derived.Test.YtpjpoopgafcedaaGreatDoorWrit
set_option linter.unusedSimpArgs false
set_option linter.unusedVariables false
namespace Go.Proofs.YtpjpoopgafcedaaGreatDoor
open Go.RowKit Go.PlainAid

def befP (m : Nat) : List UInt8 := [[], [32, 65], [32, 35, 36], [32, 36], [32, 36], [32, 36], [32, 36], [32, 36], [32, 36], [32, 40, 36], [32, 40, 36], [32, 40, 36], [32, 36]].getD m []
def dgP (m : Nat) : Nat := [0, 0, 2, 2, 2, 2, 4, 4, 4, 2, 2, 4, 4].getD m 0
def aftP (m : Nat) : List UInt8 := [[], [], [], [], [44, 88], [44, 89], [], [44, 88], [44, 89], [44, 88, 41], [41, 44, 89], [41], []].getD m []
/-- One of them: a value of the program's struct. -/
def arV (b : List UInt8) (d : Nat) (a : List UInt8) : Value := .agg #[.string (txB b), .int .i64 d, .string (txB a)]
def arC (m : Nat) : List Value := [.string (txB (befP m)), .int .i64 (dgP m), .string (txB (aftP m))]
def arA : Array Value := ((List.range 13).flatMap arC).toArray
theorem arA_size : arA.size = 39 := by kernel_rfl
theorem arA_at (m j : Nat) (hm : m < 13) (hj : j < 3) : arA[m * 3 + j]? = (arC m)[j]? := by
  have h1 : m = 0 ∨ m = 1 ∨ m = 2 ∨ m = 3 ∨ m = 4 ∨ m = 5 ∨ m = 6 ∨ m = 7 ∨ m = 8 ∨ m = 9 ∨ m = 10 ∨ m = 11 ∨ m = 12 := by omega
  have h2 : j = 0 ∨ j = 1 ∨ j = 2 := by omega
  rcases h1 with rfl | rfl | rfl | rfl | rfl | rfl | rfl | rfl | rfl | rfl | rfl | rfl | rfl <;> rcases h2 with rfl | rfl | rfl <;> rfl
/-- The program's table lies in its variable. -/
def Laid (w : World) : Prop := (∃ t fr, w.heap[0]? = some (.cells arA t fr)) ∧ w.cell? ⟨9, 15, none⟩ = some (.int .u8 4)
theorem Laid.below {w u : World} (h : Laid w) (hb : Below w.heap.size w u) : Laid u := by
  obtain ⟨⟨t, fr, h⟩, h2⟩ := h
  exact ⟨⟨t, fr, (hb.block _ (Array.getElem?_eq_some_iff.1 h).1).trans h⟩, kc hb h2⟩
theorem Laid.at {w : World} (h : Laid w) (m j : Nat) (hm : m < 13) (hj : j < 3) : w.cell? ⟨0, m * 3 + j, none⟩ = (arC m)[j]? := by
  obtain ⟨⟨t, fr, h⟩, _⟩ := h
  rw [← arA_at m j hm hj]; simp [World.cell?, h]
theorem under_ars : Tryz.prog.underlying 51 = some (.array 13 50) := by kernel_rfl
theorem agg_ar (w : World) : (isAgg 50).run Tryz.prog w = .ok true w := by kernel_rfl
theorem size_ar (w : World) : (sizeOf 50).run Tryz.prog w = .ok 3 w := by kernel_rfl
/-- How many numbers there are of so many digits. -/
theorem size_c (b a : List UInt8) (d : Nat) (hd : d ≤ 4) (w : World) : Calls Tryz.prog 30 #[arV b d a] w fun e w' => e = .returned (.int .i64 ((16 ^ d : Nat) : Int)) ∧ Below w.heap.size w w' := by
  unfold arV
  generalize txB b = S
  generalize txB a = T
  go_enter Tryz.func30, Tryz.ntmps30
  go_wp2
  go_loopw [3, 6] (fun n i wr => ∃ k : Nat, k ≤ d ∧ i = .int .i64 k ∧ n = .int .i64 ((16 ^ k : Nat) : Int) ∧ wr.cell? ⟨w.heap.size, 0, none⟩ = some (.string S) ∧ wr.cell? ⟨w.heap.size, 1, none⟩ = some (.int .i64 d) ∧ wr.cell? ⟨w.heap.size, 2, none⟩ = some (.string T) ∧ Below w.heap.size w wr) (fun _ i _ => d - (intOf i).toNat)
  case atStart => exact ⟨0, by omega, rfl, rfl, by go_simp, by go_simp, by go_simp, by go_grown⟩
  case round =>
    obtain ⟨k, hk, rfl, rfl, hrel⟩ := hrel
    obtain ⟨hx_0, hx_1, hx_2, hB⟩ := hrel
    have hsz := hB.size
    have hlx := klt hx_0
    have hnx0 : ¬ (w.heap.size = wr.heap.size) := by omega
    have hnx1 : ¬ (w.heap.size = wr.heap.size + 1) := by omega
    have hkx1 : w.heap.size < wr.heap.size + 1 := by omega
    have hnx2 : ¬ (w.heap.size = wr.heap.size + 1 + 1) := by omega
    have hkx2 : w.heap.size < wr.heap.size + 1 + 1 := by omega
    have hle : 16 ^ k ≤ 16 ^ 4 := Nat.pow_le_pow_right (by omega) (by omega)
    have hp := Lib.hid (show 16 ^ (k + 1) = 16 ^ k * 16 from Nat.pow_succ _ _)
    generalize hN : 16 ^ k = N at *
    by_cases hlt : k < d
    · have hdc : decide ((k : Int) < (d : Int)) = true := decide_eq_true (by omega)
      have hw : IntKind.i64.wrap ((N : Int) * 16) = (N : Int) * 16 := IntWalk.i64_in _ (by omega)
      clear hle
      go_wp2
      go_roundw
      case rel => exact ⟨k + 1, by omega, by go_num, by rw [hp.out]; simp, by go_simp, by go_simp, by go_simp, by go_grown⟩
      case measure => simp [intOf]; omega
    · have : k = d := by omega
      subst this
      have hdc : decide ((k : Int) < (k : Int)) = false := decide_eq_false (by omega)
      go_wp2
      go_ret
      exact ⟨by rw [hN]; rfl, by go_grown⟩
theorem holds_c (b a : List UInt8) (d : Nat) (hd : d ≤ 4) (n : Int) (w : World) : Calls Tryz.prog 28 #[arV b d a, .int .i64 n] w fun e w' => e = .returned (.bool (decide (0 ≤ n) && decide (n < ((16 ^ d : Nat) : Int)))) ∧ Below w.heap.size w w' := by
  have HS := Lib.hid (fun w => size_c b a d hd w)
  unfold arV at *
  generalize txB b = S at *
  generalize txB a = T at *
  generalize 16 ^ d = N at *
  cases h0 : decide (0 ≤ n)
  · go_enter Tryz.func28, Tryz.ntmps28
    go_wp2
    go_ret
    exact ⟨rfl, by go_grown⟩
  · go_enter Tryz.func28, Tryz.ntmps28
    go_wp2_with fail
    ((with_reducible refine (HS.out _).mono ?_); rintro _ u ⟨rfl, hb⟩)
    have T : u.cell? ⟨w.heap.size, 0, none⟩ = some (.string S) ∧ u.cell? ⟨w.heap.size, 1, none⟩ = some (.int .i64 d) ∧ u.cell? ⟨w.heap.size, 2, none⟩ = some (.string T) := by
        refine ⟨?_, ?_, ?_⟩ <;> refine kc hb ?_ <;> (go_simp; first | done | rfl)
    have hz := hb.size
    (try simp only [World.size_alloc, World.size_setCell, World.size_drew] at hz)
    have hlx' : w.heap.size < u.heap.size := by omega
    have hB' : Below w.heap.size w u := by
        refine kb ?_ hb
        go_grown
    clear hb hz
    obtain ⟨hx_0, hx_1, hx_2⟩ := T
    have hlx := hlx'; clear hlx'
    have hnx0 : ¬ (w.heap.size = u.heap.size) := by omega
    have hnx1 : ¬ (w.heap.size = u.heap.size + 1) := by omega
    have hkx1 : w.heap.size < u.heap.size + 1 := by omega
    have hnx2 : ¬ (w.heap.size = u.heap.size + 1 + 1) := by omega
    have hkx2 : w.heap.size < u.heap.size + 1 + 1 := by omega
    have hB := hB'; clear hB'
    have hsz := hB.size
    go_wp2
    go_ret
    exact ⟨rfl, by go_grown⟩
end Go.Proofs.YtpjpoopgafcedaaGreatDoor
set_option linter.unusedSimpArgs false
set_option linter.unusedVariables false
namespace Go.Proofs.YtpjpoopgafcedaaGreatDoor
open Go.RowKit Go.PlainAid

theorem tz_c (w : World) (hT : w.cell? ⟨9, 15, none⟩ = some (.int .u8 4)) : Calls Tryz.prog 81 #[.int .u64 16] w fun e w' => e = .returned (.int .i64 4) ∧ w = w' := by
  have h1 : IntKind.u64.wrap (-16) = 18446744073709551600 := by decide
  have h2 : bits BinOp.and IntKind.u64 16 18446744073709551600 = 16 := by decide +kernel
  have h3 : IntKind.u64.wrap (16 * 285870213051353865) = 4573923408821661840 := by decide
  go_enter Tryz.func81, Tryz.ntmps81
  go_wp2
  go_ret
  exact ⟨rfl, rfl⟩
theorem pow2_c (w : World) : Calls Tryz.prog 80 #[.int .i64 16] w fun e w' => e = .returned (.bool true) ∧ w = w' := by
  have b1 : bits BinOp.and IntKind.i64 16 15 = 0 := by decide +kernel
  go_enter Tryz.func80, Tryz.ntmps80
  go_wp2
  go_ret
  exact ⟨rfl, rfl⟩

/-- A hexadecimal digit's small letter; a number's small digits. -/
def lowL (d : Nat) : UInt8 := if d < 10 then (48 + d).toUInt8 else (87 + d).toUInt8
def lowsL (n : Nat) : Nat → List UInt8
  | 0 => []
  | k + 1 => lowL (n / 16 ^ k % 16) :: lowsL n k
def digit36 : ByteArray := ⟨#[48, 49, 50, 51, 52, 53, 54, 55, 56, 57, 97, 98, 99, 100, 101, 102, 103, 104, 105, 106, 107, 108, 109, 110, 111, 112, 113, 114, 115, 116, 117, 118, 119, 120, 121, 122]⟩
theorem low_at : ∀ d : Fin 16, (digit36[d.val]'(Nat.lt_of_lt_of_le d.isLt (by decide))) = lowL d.val := by decide +kernel
theorem low_ix (d : Nat) (hd : d < 16) (w : World) : (Instr.index 9 (.string digit36) (.int .u64 d)).run Tryz.prog w = .ok (.int .u8 (lowL d).toNat) w := by
  have h := low_at ⟨d, hd⟩
  have hz : digit36.size = 36 := by decide
  rw [run_index_string _ _ _ _ _ Tryz.underlying9, dif_pos (by rw [hz]; omega)]
  simp only [Int.toNat_natCast]
  rw [h]
theorem and15 (N : Nat) (h : N < 1048576) : bits .and .u64 (N : Int) 15 = ((N % 16 : Nat) : Int) := by
  rw [show (15 : Int) = ((15 : Nat) : Int) from rfl, bits_and_u64_nat _ _ (by omega) (by omega), show (15 : Nat) = 2 ^ 4 - 1 from rfl, Nat.and_two_pow_sub_one_eq_mod]
theorem slice_c (B : Nat) (I : Int) (h0 : 1 ≤ I) (h1 : I ≤ 65) (W : World) : (Instr.sliceAt 121 (.pointer (some ⟨B, 0, none⟩)) (some (.int .i64 (I - 1))) none none).run Tryz.prog W = .ok (.slice (some ⟨B, I.toNat - 1, none⟩) (65 - (I.toNat - 1)) (65 - (I.toNat - 1))) W := by
  have e1 : Tryz.prog.arrayLen 121 = 65 := by kernel_rfl
  have e2 : (sizeOf (Tryz.prog.elem 121)).run Tryz.prog W = .ok 1 W := by kernel_rfl
  rw [run_sliceAt_array_l W 121 ⟨B, 0, none⟩ (by kernel_rfl) .i64 (I - 1) (by omega) (by rw [e1]; omega), e2, e1]
  show Result.ok (slicedAt ⟨B, 0, none⟩ (I - 1).toNat 65 65 1) W = _
  unfold slicedAt
  have e3 : (I - 1).toNat = I.toNat - 1 := by omega
  rw [if_neg (by omega), e3, Addr.add_lit]
  simp
theorem lows_len (n : Nat) : ∀ k, (lowsL n k).length = k
  | 0 => rfl
  | k + 1 => by show (lowsL n k).length + 1 = k + 1; rw [lows_len n k]
theorem lows_at (n : Nat) : ∀ (k j : Nat), j < k → (lowsL n k)[j]? = some (lowL (n / 16 ^ (k - 1 - j) % 16))
  | k + 1, 0, _ => by show some _ = _; simp
  | k + 1, j + 1, h => by
    show (lowsL n k)[j]? = _
    rw [lows_at n k j (by omega), show k - 1 - j = k + 1 - 1 - (j + 1) by omega]
theorem conv_digits (W : World) (B n j : Nat) (hj : j < 5) (h : ∀ t, t < j + 1 → W.cell? ⟨B, 64 - t, none⟩ = some (.int .u8 (lowL (n / 16 ^ t % 16)).toNat)) :
    (convert 23 9 (.slice (some ⟨B, 64 - j, none⟩) (j + 1) (j + 1))).run Tryz.prog W = .ok (.string (txB (lowsL n (j + 1)))) W := by
  have hc := run_convert_bytes_back (P := Tryz.prog) W 23 9 5 ⟨B, 64 - j, none⟩ (j + 1) (lowsL n (j + 1)) Tryz.underlying23 Tryz.underlying5 Tryz.underlying9 (fun i hi => by
    rw [lows_len] at hi
    have e := lows_at n (j + 1) i hi
    rw [List.getElem?_eq_getElem (by rw [lows_len]; exact hi)] at e
    rw [Option.some.inj e, Addr.add_lit, show 64 - j + i = 64 - (j - i) by omega, h (j - i) (by omega), show j + 1 - 1 - i = j - i by omega])
  rw [lows_len] at hc
  exact hc
set_option maxRecDepth 100000 in
set_option maxHeartbeats 1000000 in
theorem bits_c (n : Nat) (w : World) (hT : w.cell? ⟨9, 15, none⟩ = some (.int .u8 4)) (hn : n < 1048576) (k : Nat) (hk : 16 ^ k ≤ n) (hk2 : n < 16 ^ (k + 1)) : Calls Tryz.prog 62 #[.slice none 0 0, .int .u64 n, .int .i64 16, .bool false, .bool false] w fun e w' => e = .returned (.tuple #[.slice none 0 0, .string (txB (lowsL n (k + 1)))]) ∧ Below w.heap.size w w' := by
  have HT := Lib.hid (fun o => tz_c (w.alloc o) (kc ((Below.refl _ w).alloc (Nat.le_refl _) o) hT))
  go_enter Tryz.func62, Tryz.ntmps62
  go_wp2_with (first | (go_at_call 81; (with_reducible refine (HT.out _).mono ?_); rintro _ _ ⟨rfl, rfl⟩) | (go_at_call 80; (with_reducible refine (pow2_c _).mono ?_); rintro _ _ ⟨rfl, rfl⟩))
  go_loopw [1, 13] (fun u i wr => ∃ (j : Nat) (A : Array Value), j ≤ k ∧ u = .int .u64 ((n / 16 ^ j : Nat) : Int) ∧ i = .int .i64 (65 - (j : Int)) ∧ Hid (A.size = 65 ∧ ∀ t, t < j → A[64 - t]? = some (.int .u8 (lowL (n / 16 ^ t % 16)).toNat)) ∧ wr.heap[w.heap.size]? = some (.cells A 121 (0, 0)) ∧ Below w.heap.size w wr) (fun u i _ => (intOf i).toNat)
  case atStart =>
    refine ⟨0, Tryz.zeroCells121, by omega, by simp, rfl, Lib.hid ⟨by kernel_rfl, fun t h => by omega⟩, ?_, by go_grown⟩
    exact heap_alloc_new w _
  case round =>
    obtain ⟨j, A, hj, rfl, rfl, HA, hg, hB⟩ := hrel
    have hNn : n / 16 ^ j ≤ n := Nat.div_le_self _ _
    obtain ⟨hA, hAt⟩ := HA.out
    have hj4 : k < 5 := by
      refine Nat.lt_of_not_le fun h => ?_
      have : 16 ^ 5 ≤ 16 ^ k := Nat.pow_le_pow_right (by omega) h
      omega
    by_cases hlt : j < k
    · have hge : 16 ≤ n / 16 ^ j := by
        rw [Nat.le_div_iff_mul_le (Nat.pow_pos (by omega))]
        refine Nat.le_trans ?_ hk
        rw [← Nat.pow_succ']
        exact Nat.pow_le_pow_right (by omega) (by omega)
      generalize hNe : n / 16 ^ j = N at *
      obtain ⟨I, hI⟩ : ∃ I : Int, I = 65 - (j : Int) := ⟨_, rfl⟩
      rw [← hI]
      have hN : decide ((16 : Int) ≤ (N : Int)) = true := decide_eq_true (by omega)
      have w1 : IntKind.i64.wrap (I - 1) = I - 1 := IntWalk.i64_in _ (by omega)
      have a1 := and15 N (by omega)
      have HL := Lib.hid (low_at ⟨N % 16, Nat.mod_lt _ (by omega)⟩)
      have hlo : 0 ≤ I - 1 := by omega
      have hhi : I - 1 < 65 := by omega
      have hto : I.toNat - 1 = 64 - j := by omega
      obtain ⟨c0, hcl⟩ : ∃ c0, wr.cell? ⟨w.heap.size, I.toNat - 1, none⟩ = some c0 := by
        refine ⟨A[I.toNat - 1]'(by omega), ?_⟩
        simp only [World.cell?, hg]
        simp [show I.toNat - 1 < A.size by omega]
      have hfz : wr.frozen? ⟨w.heap.size, I.toNat - 1, none⟩ = false := by
        simp [World.frozen?, hg]
      have HT2 := Lib.hid hto
      have HAt := Lib.hid hAt
      have HN2 := Lib.hid hNe
      clear hto hNe
      have HI := Lib.hid hI
      clear HA hAt hI
      go_wp2
      go_roundw
      case rel =>
        have hto := HT2.out
        refine ⟨j + 1, A.setIfInBounds (64 - j) (.int .u8 (lowL (N % 16)).toNat), by omega, ?_, ?_, Lib.hid ⟨by rw [Array.size_setIfInBounds]; exact hA, ?_⟩, ?_, ?_⟩
        · rw [Nat.pow_succ, ← Nat.div_div_eq_div_mul, HN2.out]; simp
        · rw [HI.out]; congr 1; omega
        · intro t ht
          by_cases e : t = j
          · subst e
            rw [Array.getElem?_setIfInBounds, if_pos rfl, if_pos (by omega), HN2.out]
          · rw [Array.getElem?_setIfInBounds, if_neg (by omega)]
            exact HAt.out t (by omega)
        · rw [hto]
          have := heap_setCell_same wr w.heap.size (64 - j) A 121 (.int .u8 (lowL (N % 16)).toNat) hg
          rw [← HL.out] at this ⊢
          exact this
        · exact hB.setCell (by simp) _
      case measure => simp [intOf]; omega
    · have hjk : j = k := by omega
      subst hjk
      have hle : n / 16 ^ j < 16 := by
        rw [Nat.div_lt_iff_lt_mul (Nat.pow_pos (by omega)), ← Nat.pow_succ']
        exact hk2
      generalize hNe : n / 16 ^ j = N at *
      obtain ⟨I, hI⟩ : ∃ I : Int, I = 65 - (j : Int) := ⟨_, rfl⟩
      rw [← hI]
      have hN : decide ((16 : Int) ≤ (N : Int)) = false := decide_eq_false (by omega)
      have w1 : IntKind.i64.wrap (I - 1) = I - 1 := IntWalk.i64_in _ (by omega)
      have hlo : 0 ≤ I - 1 := by omega
      have hhi : I - 1 < 65 := by omega
      have hn16 : (N : Int) < 36 := by omega
      have hto : I.toNat - 1 = 64 - j := by omega
      obtain ⟨c0, hcl⟩ : ∃ c0, wr.cell? ⟨w.heap.size, I.toNat - 1, none⟩ = some c0 := by
        refine ⟨A[I.toNat - 1]'(by omega), ?_⟩
        simp only [World.cell?, hg]
        simp [show I.toNat - 1 < A.size by omega]
      have hfz : wr.frozen? ⟨w.heap.size, I.toNat - 1, none⟩ = false := by
        simp [World.frozen?, hg]
      have HT2 := Lib.hid hto
      have HAt := Lib.hid hAt
      have HN2 := Lib.hid hNe
      have hlit : ({ data := #[48, 49, 50, 51, 52, 53, 54, 55, 56, 57, 97, 98, 99, 100, 101, 102, 103, 104, 105, 106, 107, 108, 109, 110, 111, 112, 113, 114, 115, 116, 117, 118, 119, 120, 121, 122] } : ByteArray)[N]'(Nat.lt_of_lt_of_le hle (by decide)) = lowL N := low_at ⟨N, hle⟩
      have qs := slice_c w.heap.size I (by omega) (by omega)
      have qc := conv_digits (wr.setCell ⟨w.heap.size, I.toNat - 1, none⟩ (.int .u8 (lowL N).toNat)) w.heap.size n j (by omega) (fun t ht => by
        have hs := heap_setCell_same wr w.heap.size (64 - j) A 121 (.int .u8 (lowL N).toNat) hg
        rw [HT2.out, show (wr.setCell ⟨w.heap.size, 64 - j, none⟩ (.int .u8 (lowL N).toNat)).cell? ⟨w.heap.size, 64 - t, none⟩ = (A.setIfInBounds (64 - j) (.int .u8 (lowL N).toNat))[64 - t]? from by simp [World.cell?, hs]]
        by_cases e : t = j
        · subst e
          rw [Array.getElem?_setIfInBounds, if_pos rfl, if_pos (by omega), ← HN2.out, Nat.mod_eq_of_lt (by rw [HN2.out]; exact hle)]
        · rw [Array.getElem?_setIfInBounds, if_neg (by omega)]
          exact HAt.out t (by omega))
      have hl1 : 65 - (I.toNat - 1) = j + 1 := by omega
      rw [← HT2.out] at qc
      rw [hl1] at qs
      have HI := Lib.hid hI
      clear HA hAt hI hto hNe hl1
      go_wp2
      refine bodyPost_ret (v := .tuple #[.slice none 0 0, .string (txB (lowsL n (j + 1)))]) (by simp [results, Tryz.results62, go_sem]) rfl ⟨rfl, hB.setCell (by simp) _⟩
theorem fmti_c (n : Nat) (w : World) (hT : w.cell? ⟨9, 15, none⟩ = some (.int .u8 4)) (hn : n < 1048576) (k : Nat) (hk : 16 ^ k ≤ n) (hk2 : n < 16 ^ (k + 1)) : Calls Tryz.prog 43 #[.int .i64 n, .int .i64 16] w fun e w' => e = .returned (.string (txB (lowsL n (k + 1)))) ∧ Below w.heap.size w w' := by
  have HB := Lib.hid (bits_c n w hT hn k hk hk2)
  have h0 : decide ((n : Int) < 0) = false := decide_eq_false (by omega)
  have h1 : IntKind.u64.wrap (n : Int) = n := by rw [IntKind.wrap_u64]; omega
  generalize txB (lowsL n (k + 1)) = S at *
  clear hk hk2
  go_enter Tryz.func43, Tryz.ntmps43
  go_wp2_with fail
  ((with_reducible refine (HB.out).mono ?_); rintro _ u ⟨rfl, hb⟩)
  have hz := hb.size
  (try simp only [World.size_alloc, World.size_setCell, World.size_drew] at hz)
  have hB' : Below w.heap.size w u := by
      refine kb ?_ hb
      go_grown
  clear hb hz
  have hB := hB'; clear hB'
  have hsz := hB.size
  go_wp2
  go_ret
  exact ⟨rfl, by go_grown⟩
theorem fmt_c (n : Nat) (w : World) (hT : w.cell? ⟨9, 15, none⟩ = some (.int .u8 4)) (hn : n < 1048576) (k : Nat) (hk : 16 ^ k ≤ n) (hk2 : n < 16 ^ (k + 1)) : Calls Tryz.prog 29 #[.int .i64 n, .int .i64 16] w fun e w' => e = .returned (.string (txB (lowsL n (k + 1)))) ∧ Below w.heap.size w w' := by
  have HB := Lib.hid (fmti_c n w hT hn k hk hk2)
  generalize txB (lowsL n (k + 1)) = S at *
  clear hk hk2
  go_enter Tryz.func29, Tryz.ntmps29
  go_wp2_with fail
  ((with_reducible refine (HB.out).mono ?_); rintro _ u ⟨rfl, hb⟩)
  have hz := hb.size
  (try simp only [World.size_alloc, World.size_setCell, World.size_drew] at hz)
  have hB' : Below w.heap.size w u := by
      refine kb ?_ hb
      go_grown
  clear hb hz
  have hB := hB'; clear hB'
  have hsz := hB.size
  go_wp2
  go_ret
  exact ⟨rfl, by go_grown⟩
end Go.Proofs.YtpjpoopgafcedaaGreatDoor
set_option linter.unusedSimpArgs false
set_option linter.unusedVariables false
namespace Go.Proofs.YtpjpoopgafcedaaGreatDoor
open Go.RowKit Go.PlainAid

theorem up_low : ∀ d : Fin 16, Lib.upperB (lowL d.val) = hexL d.val := by decide +kernel
theorem low_ascii : ∀ d : Fin 16, (lowL d.val).toNat < 128 := by decide +kernel
theorem up_lows (n : Nat) : ∀ k, Lib.toUpperA (lowsL n k) = digsL n k
  | 0 => rfl
  | k + 1 => by
    show Lib.upperB (lowL (n / 16 ^ k % 16)) :: Lib.toUpperA (lowsL n k) = hexL (n / 16 ^ k % 16) :: digsL n k
    rw [up_lows n k, up_low ⟨n / 16 ^ k % 16, Nat.mod_lt _ (by omega)⟩]
theorem lows_ascii (n : Nat) : ∀ k, ∀ x ∈ lowsL n k, x.toNat < 128
  | 0, x, h => by cases h
  | k + 1, x, h => by
    rcases List.mem_cons.1 h with rfl | h
    · exact low_ascii ⟨_, Nat.mod_lt _ (by omega)⟩
    · exact lows_ascii n k x h
theorem digs_one (n d : Nat) (hd : d = 0 ∨ d = 2 ∨ d = 4) : digsL (16 ^ d + n) d = digsL n d := by
  rcases hd with rfl | rfl | rfl
  · rfl
  · simp only [digsL]
    rw [show (16 ^ 2 + n) / 16 ^ 1 % 16 = n / 16 ^ 1 % 16 by omega, show (16 ^ 2 + n) / 16 ^ 0 % 16 = n / 16 ^ 0 % 16 by omega]
  · simp only [digsL]
    rw [show (16 ^ 4 + n) / 16 ^ 3 % 16 = n / 16 ^ 3 % 16 by omega, show (16 ^ 4 + n) / 16 ^ 2 % 16 = n / 16 ^ 2 % 16 by omega, show (16 ^ 4 + n) / 16 ^ 1 % 16 = n / 16 ^ 1 % 16 by omega, show (16 ^ 4 + n) / 16 ^ 0 % 16 = n / 16 ^ 0 % 16 by omega]
theorem upper_c (n k : Nat) (hk : k ≤ 4) (w : World) : Calls Tryz.prog 31 #[.string (txB (lowsL n k))] w fun e w' => e = .returned (.string (txB (digsL n k))) ∧ Below w.heap.size w w' := by
  refine (Tryz.strings_ToUpper_ascii (txB (lowsL n k)) w (by rw [txB_size, lows_len]; omega) ?_).mono ?_
  · intro j b h
    exact lows_ascii n k b (List.mem_of_getElem? (by simpa using h))
  · rintro e w' ⟨rfl, hb⟩
    exact ⟨by rw [show (txB (lowsL n k)).data.toList = lowsL n k by simp, up_lows], hb⟩
set_option maxRecDepth 100000 in
set_option maxHeartbeats 1000000 in
theorem print_c (b a : List UInt8) (d n : Nat) (hd : d = 0 ∨ d = 2 ∨ d = 4) (hb : b.length ≤ 10) (ha : a.length ≤ 10) (hn : n < 16 ^ d) (w : World) (hT : w.cell? ⟨9, 15, none⟩ = some (.int .u8 4)) :
    Calls Tryz.prog 16 #[arV b d a, .int .i64 n] w fun e w' => e = .returned (.string (txB (b ++ digsL n d ++ a))) ∧ Below w.heap.size w w' := by
  have h4 : 16 ^ d ≤ 16 ^ 4 := Nat.pow_le_pow_right (by omega) (by omega)
  have HS := Lib.hid (fun w => size_c b a d (by omega) w)
  have HF := Lib.hid (fun (w : World) hT => fmt_c (16 ^ d + n) w hT (by omega) d (by omega) (by rw [Nat.pow_succ]; omega))
  have HU := Lib.hid (fun w => upper_c (16 ^ d + n) d (by omega) w)
  have hq : ∀ W, (Instr.slice 9 (.string (txB (lowsL (16 ^ d + n) (d + 1)))) (some (.int .i64 1)) none none).run Tryz.prog W = .ok (.string (txB (lowsL (16 ^ d + n) d))) W := fun W => by
    rw [run_slice_string_l (ht := Tryz.underlying9) (h0 := by omega) (h1 := by rw [txB_size, lows_len]; omega), txB_extract, txB_size]
    rw [List.take_length]; rfl
  have HL := Lib.hid (digs_one n d hd)
  have hz1 : (txB b).size ≤ 10 := by rw [txB_size]; exact hb
  have hz2 : (txB a).size ≤ 10 := by rw [txB_size]; exact ha
  have hz3 : (txB (digsL (16 ^ d + n) d)).size ≤ 4 := by rw [txB_size, digsL_len]; omega
  have HV := Lib.hid (show txB b ++ txB (digsL (16 ^ d + n) d) ++ txB a = txB (b ++ digsL n d ++ a) from by rw [txB_append, txB_append, digs_one n d hd])
  have hadd : IntKind.i64.wrap (((16 ^ d : Nat) : Int) + (n : Int)) = ((16 ^ d + n : Nat) : Int) := by rw [IntWalk.i64_in _ (by omega)]; omega
  unfold arV at *
  generalize txB b = S at *
  generalize txB a = T at *
  generalize txB (digsL (16 ^ d + n) d) = D at *
  generalize txB (lowsL (16 ^ d + n) d) = L at *
  generalize txB (lowsL (16 ^ d + n) (d + 1)) = L1 at *
  generalize 16 ^ d + n = M at *
  generalize 16 ^ d = P at *
  have hs1 : ¬ 9223372036854775807 < S.size + D.size := by omega
  have hs2 : ¬ 9223372036854775807 < S.size + D.size + T.size := by omega
  clear hn h4 hd hb ha hz1 hz2 hz3
  go_enter Tryz.func16, Tryz.ntmps16
  go_wp2_with fail
  ((with_reducible refine (HS.out _).mono ?_); rintro _ u ⟨rfl, hb⟩)
  have T : u.cell? ⟨w.heap.size, 0, none⟩ = some (.string S) ∧ u.cell? ⟨w.heap.size, 1, none⟩ = some (.int .i64 d) ∧ u.cell? ⟨w.heap.size, 2, none⟩ = some (.string T) := by
      refine ⟨?_, ?_, ?_⟩ <;> refine kc hb ?_ <;> (go_simp; first | done | rfl)
  have hz := hb.size
  (try simp only [World.size_alloc, World.size_setCell, World.size_drew] at hz)
  have hlx' : w.heap.size < u.heap.size := by omega
  have hB' : Below w.heap.size w u := by
      refine kb ?_ hb
      go_grown
  clear hb hz
  obtain ⟨hx_0, hx_1, hx_2⟩ := T
  have hlx := hlx'; clear hlx'
  have hnx0 : ¬ (w.heap.size = u.heap.size) := by omega
  have hnx1 : ¬ (w.heap.size = u.heap.size + 1) := by omega
  have hkx1 : w.heap.size < u.heap.size + 1 := by omega
  have hnx2 : ¬ (w.heap.size = u.heap.size + 1 + 1) := by omega
  have hkx2 : w.heap.size < u.heap.size + 1 + 1 := by omega
  have hB := hB'; clear hB'
  have hsz := hB.size
  go_wp2_with fail
  have hT2 := kc hB hT
  ((with_reducible refine (HF.out _ hT2).mono ?_); rintro _ u2 ⟨rfl, hb⟩)
  have T : u2.cell? ⟨w.heap.size, 0, none⟩ = some (.string S) ∧ u2.cell? ⟨w.heap.size, 1, none⟩ = some (.int .i64 d) ∧ u2.cell? ⟨w.heap.size, 2, none⟩ = some (.string T) := by
      refine ⟨?_, ?_, ?_⟩ <;> refine kc hb ?_ <;> (go_simp; first | done | rfl)
  have hz := hb.size
  (try simp only [World.size_alloc, World.size_setCell, World.size_drew] at hz)
  have hlx' : w.heap.size < u2.heap.size := by omega
  have hB' : Below w.heap.size w u2 := by
      refine kb ?_ hb
      go_grown
  clear hx_0 hx_1 hx_2 hlx hnx0 hnx1 hkx1 hnx2 hkx2 hB hsz
  clear hb hz
  obtain ⟨hx_0, hx_1, hx_2⟩ := T
  have hlx := hlx'; clear hlx'
  have hnx0 : ¬ (w.heap.size = u2.heap.size) := by omega
  have hnx1 : ¬ (w.heap.size = u2.heap.size + 1) := by omega
  have hkx1 : w.heap.size < u2.heap.size + 1 := by omega
  have hnx2 : ¬ (w.heap.size = u2.heap.size + 1 + 1) := by omega
  have hkx2 : w.heap.size < u2.heap.size + 1 + 1 := by omega
  have hB := hB'; clear hB'
  have hsz := hB.size
  go_wp2_with fail
  refine wp_region_plan (fun w' => w'.cell? ⟨w.heap.size, 0, none⟩ = some (.string S) ∧ w'.cell? ⟨w.heap.size, 1, none⟩ = some (.int .i64 d) ∧ w'.cell? ⟨w.heap.size, 2, none⟩ = some (.string T) ∧ Below w.heap.size w w') (by kernel_rfl) (by kernel_rfl) (by kernel_rfl) ?_ ?_
  · (try dsimp only)
    refine ⟨?_, ?_, ?_, ?_⟩ <;> first | (go_simp; done) | (simp [*]; done) | go_grown
  repeat (first
    | (refine Plan.val (v := ?_) ?_ ?_ ?_; rotate_left; (· rfl); (· (intro W hSw; (try dsimp only at hSw); go_simp; all_goals (first | (with_reducible rfl) | (constructor <;> (with_reducible rfl))))); (try simp only [Act.put, List.setIfInBounds_toArray, List.set_cons_zero, List.set_cons_succ]))
    | (refine Plan.no ?_ ?_; (· rfl); (try simp only [Act.put, List.setIfInBounds_toArray, List.set_cons_zero, List.set_cons_succ]))
    | (refine Plan.call (v := ?_) (f := ?_) (args := ?_) ?_ ?_ ?_ ?_; rotate_left 3; (· rfl); (· (intro W hSw; (try dsimp only at hSw); go_simp; all_goals (first | (with_reducible rfl) | (constructor <;> (with_reducible rfl))))); (· (intro W hSw; (try dsimp only at hSw); first | (go_at_call 31; ((with_reducible refine (HU.out _).mono ?_); rintro _ wz ⟨rfl, hb⟩; (refine ⟨?_, ?_⟩; (· with_reducible rfl); exact ⟨kc hb hSw.1, kc hb hSw.2.1, kc hb hSw.2.2.1, kb hSw.2.2.2 hb⟩))))); (try simp only [Act.put, List.setIfInBounds_toArray, List.set_cons_zero, List.set_cons_succ])))
  refine Plan.done ?_
  intro wz T
  (try dsimp only at T)
  have hBe := T.2.2.2
  go_wp2
  go_ret
  exact ⟨by rw [HV.out]; rfl, hBe⟩
end Go.Proofs.YtpjpoopgafcedaaGreatDoor
set_option linter.unusedSimpArgs false
set_option linter.unusedVariables false
namespace Go.Proofs.YtpjpoopgafcedaaGreatDoor
open Go.RowKit Go.PlainAid

theorem most_dg : ∀ m : Fin 13, ((16 ^ dgP m.val : Nat) : Int) = mostD (m.val : Int) + 1 := by decide +kernel
theorem dg_ways : ∀ m : Fin 13, dgP m.val = 0 ∨ dgP m.val = 2 ∨ dgP m.val = 4 := by decide +kernel
theorem bef_len : ∀ m : Fin 13, (befP m.val).length ≤ 10 := by decide +kernel
theorem aft_len : ∀ m : Fin 13, (aftP m.val).length ≤ 10 := by decide +kernel
theorem dg_four (m : Nat) (h : m < 13) : dgP m ≤ 4 := by rcases dg_ways ⟨m, h⟩ with h | h | h <;> (dsimp only at h; omega)
theorem oldc {w : World} {b n : Nat} {v : Value} (h : w.cell? ⟨b, n, none⟩ = some v) (o : Obj) : (w.alloc o).cell? ⟨b, n, none⟩ = some v := kc (Below.alloc (Below.refl _ _) (Nat.le_refl _) o) h
theorem three_cells {u : World} {b : Nat} {x y z : Value} (h0 : u.cell? ⟨b, 0, none⟩ = some x) (h1 : u.cell? ⟨b, 1, none⟩ = some y) (h2 : u.cell? ⟨b, 2, none⟩ = some z) (v v2 v3 : Value) :
    (((u.setCell ⟨b, 0, none⟩ v).setCell ⟨b, 1, none⟩ v2).setCell ⟨b, 2, none⟩ v3).cell? ⟨b, 0, none⟩ = some v ∧ (((u.setCell ⟨b, 0, none⟩ v).setCell ⟨b, 1, none⟩ v2).setCell ⟨b, 2, none⟩ v3).cell? ⟨b, 1, none⟩ = some v2 ∧ (((u.setCell ⟨b, 0, none⟩ v).setCell ⟨b, 1, none⟩ v2).setCell ⟨b, 2, none⟩ v3).cell? ⟨b, 2, none⟩ = some v3 := by
  have a0 : (u.setCell ⟨b, 0, none⟩ v).cell? ⟨b, 0, none⟩ = some v := World.cell?_setCell_same u _ v h0
  have a1 : (u.setCell ⟨b, 0, none⟩ v).cell? ⟨b, 1, none⟩ = some y := (World.cell?_setCell_other u _ _ v (by simp)).trans h1
  have a2 : (u.setCell ⟨b, 0, none⟩ v).cell? ⟨b, 2, none⟩ = some z := (World.cell?_setCell_other u _ _ v (by simp)).trans h2
  have b0 : ((u.setCell ⟨b, 0, none⟩ v).setCell ⟨b, 1, none⟩ v2).cell? ⟨b, 0, none⟩ = some v := (World.cell?_setCell_other _ _ _ v2 (by simp)).trans a0
  have b1 : ((u.setCell ⟨b, 0, none⟩ v).setCell ⟨b, 1, none⟩ v2).cell? ⟨b, 1, none⟩ = some v2 := World.cell?_setCell_same _ _ v2 a1
  have b2 : ((u.setCell ⟨b, 0, none⟩ v).setCell ⟨b, 1, none⟩ v2).cell? ⟨b, 2, none⟩ = some z := (World.cell?_setCell_other _ _ _ v2 (by simp)).trans a2
  exact ⟨(World.cell?_setCell_other _ _ _ v3 (by simp)).trans b0, (World.cell?_setCell_other _ _ _ v3 (by simp)).trans b1, World.cell?_setCell_same _ _ v3 b2⟩
set_option maxRecDepth 100000 in
set_option maxHeartbeats 1000000 in
theorem check_no (b : Nat) (hb : b < 256) (ho : isOp b = false) (n : Int) (w : World) :
    Calls Tryz.prog 15 #[.agg #[.int .u8 b, .int .i64 n]] w fun e w' => e = .returned (.tuple #[.agg #[.string ⟨#[]⟩, .int .i64 0, .int .i64 0], .int .i64 13]) ∧ Below w.heap.size w w' := by
  have HO := Lib.hid (fun w => of_c b hb w)
  have hv : ofV b = .tuple #[.agg #[.string ⟨#[]⟩, .int .i64 0, .int .i64 0], .int .i64 13] := by unfold ofV opC errOf; rw [ho]; rfl
  rw [hv] at HO
  go_enter Tryz.func15, Tryz.ntmps15
  go_wp2_with fail
  ((with_reducible refine (HO.out _).mono ?_); rintro _ u ⟨rfl, hb⟩)
  have T : u.cell? ⟨w.heap.size, 0, none⟩ = some (.int .u8 b) ∧ u.cell? ⟨w.heap.size, 1, none⟩ = some (.int .i64 n) ∧ u.cell? ⟨w.heap.size + 1, 0, none⟩ = some (.string ⟨#[]⟩) ∧ u.frozen? ⟨w.heap.size + 1, 0, none⟩ = false ∧ u.cell? ⟨w.heap.size + 1, 1, none⟩ = some (.int .i64 0) ∧ u.frozen? ⟨w.heap.size + 1, 1, none⟩ = false ∧ u.cell? ⟨w.heap.size + 1, 2, none⟩ = some (.int .i64 0) ∧ u.frozen? ⟨w.heap.size + 1, 2, none⟩ = false := by
      refine ⟨?_, ?_, ?_, ?_, ?_, ?_, ?_, ?_⟩ <;> first | (refine kc hb ?_ <;> (go_simp; first | done | rfl)) | (refine kfz hb ?_ ?_ <;> first | (go_size; done) | (go_simp; done))
  have hz := hb.size
  (try simp only [World.size_alloc, World.size_setCell, World.size_drew] at hz)
  have hlx' : w.heap.size < u.heap.size := by omega
  have hly' : w.heap.size + 1 < u.heap.size := by omega
  have hB' : Below w.heap.size w u := by
      refine kb ?_ hb
      go_grown
  clear hb hz
  obtain ⟨hx_0, hx_1, hy_0, fy_0, hy_1, fy_1, hy_2, fy_2⟩ := T
  have hlx := hlx'; clear hlx'
  have hly := hly'; clear hly'
  have hnx0 : ¬ (w.heap.size = u.heap.size) := by omega
  have hnx1 : ¬ (w.heap.size = u.heap.size + 1) := by omega
  have hkx1 : w.heap.size < u.heap.size + 1 := by omega
  have hnx2 : ¬ (w.heap.size = u.heap.size + 1 + 1) := by omega
  have hkx2 : w.heap.size < u.heap.size + 1 + 1 := by omega
  have hny0 : ¬ (w.heap.size + 1 = u.heap.size) := by omega
  have hky1 : w.heap.size < u.heap.size := by omega
  have hB := hB'; clear hB'
  have hsz := hB.size
  go_wp2
  have s3 := three_cells hy_0 hy_1 hy_2
  refine bodyPost_ret (v := .tuple #[.agg #[.string ⟨#[]⟩, .int .i64 0, .int .i64 0], .int .i64 13]) (by simp [results, Tryz.results15, go_sem, oldc (s3 _ _ _).1, oldc (s3 _ _ _).2.1, oldc (s3 _ _ _).2.2]) rfl ⟨rfl, by go_grown⟩
set_option maxRecDepth 100000 in
set_option maxHeartbeats 1000000 in
theorem check_op (b m : Nat) (hb : b < 256) (ho : isOp b = true) (hm : m < 13) (hmd : md b = (m : Int)) (n : Int) (w : World) (hl : Laid w) :
    Calls Tryz.prog 15 #[.agg #[.int .u8 b, .int .i64 n]] w fun e w' => e = .returned (.tuple #[.agg (if n < 0 ∨ mostD m < n then #[.string ⟨#[]⟩, .int .i64 0, .int .i64 0] else opC b), .int .i64 (if n < 0 ∨ mostD m < n then 10 else 0)]) ∧ Below w.heap.size w w' := by
  have HO := Lib.hid (fun w => of_c b hb w)
  have hop : opC b = #[.string ⟨(nm b).toArray⟩, .int .i64 m, .int .i64 (kindP (nm b) (md b))] := by unfold opC; rw [ho, hmd]; rfl
  have hv : ofV b = .tuple #[.agg #[.string ⟨(nm b).toArray⟩, .int .i64 m, .int .i64 (kindP (nm b) (md b))], .int .i64 0] := by unfold ofV errOf; rw [hop, ho]; rfl
  rw [hv] at HO
  rw [hop]
  have HH := Lib.hid (fun w => holds_c (befP m) (aftP m) (dgP m) (dg_four m hm) n w)
  have HE := Lib.hid (show (decide (0 ≤ n) && decide (n < ((16 ^ dgP m : Nat) : Int))) = !decide (n < 0 ∨ mostD m < n) from by
    rw [most_dg ⟨m, hm⟩, Bool.eq_iff_iff]
    simp
    omega)
  have k0 := hl.at m 0 hm (by omega)
  have k1 := hl.at m 1 hm (by omega)
  have k2 := hl.at m 2 hm (by omega)
  simp only [Nat.add_zero] at k0
  have hlg : 0 < w.heap.size := by obtain ⟨⟨t, fr, h⟩, _⟩ := hl; exact (Array.getElem?_eq_some_iff.1 h).1
  have hng : ¬ (0 = w.heap.size) := by omega
  have hng1 : ¬ (0 = w.heap.size + 1) := by omega
  have hm13 : (m : Int) < 13 := by omega
  unfold arV at *
  have e0 : (arC m)[0]? = some (.string (txB (befP m))) := rfl
  have e1 : (arC m)[1]? = some (.int .i64 (dgP m)) := rfl
  have e2 : (arC m)[2]? = some (.string (txB (aftP m))) := rfl
  rw [e0] at k0
  rw [e1] at k1
  rw [e2] at k2
  clear e0 e1 e2 hl
  generalize kindP (nm b) (md b) = K at *
  generalize ByteArray.mk (nm b).toArray = N at *
  generalize txB (befP m) = S at *
  generalize txB (aftP m) = T at *
  rw [HE.out] at HH
  clear HE
  have HB : ∀ {α : Type} (x y : α), (if n < 0 ∨ mostD (m : Int) < n then x else y) = if decide (n < 0 ∨ mostD (m : Int) < n) = true then x else y := by
    intro α x y
    simp only [decide_eq_true_eq]
  rw [HB, HB]
  clear HB
  generalize decide (n < 0 ∨ mostD (m : Int) < n) = B at *
  generalize dgP m = D at *
  go_enter Tryz.func15, Tryz.ntmps15
  go_wp2_with fail
  ((with_reducible refine (HO.out _).mono ?_); rintro _ u ⟨rfl, hb⟩)
  have T : u.cell? ⟨w.heap.size, 0, none⟩ = some (.int .u8 b) ∧ u.cell? ⟨w.heap.size, 1, none⟩ = some (.int .i64 n) ∧ u.cell? ⟨w.heap.size + 1, 0, none⟩ = some (.string ⟨#[]⟩) ∧ u.frozen? ⟨w.heap.size + 1, 0, none⟩ = false ∧ u.cell? ⟨w.heap.size + 1, 1, none⟩ = some (.int .i64 0) ∧ u.frozen? ⟨w.heap.size + 1, 1, none⟩ = false ∧ u.cell? ⟨w.heap.size + 1, 2, none⟩ = some (.int .i64 0) ∧ u.frozen? ⟨w.heap.size + 1, 2, none⟩ = false ∧ u.cell? ⟨0, m * 3, none⟩ = some (.string S) ∧ u.cell? ⟨0, m * 3 + 1, none⟩ = some (.int .i64 D) ∧ u.cell? ⟨0, m * 3 + 2, none⟩ = some (.string T) := by
      refine ⟨?_, ?_, ?_, ?_, ?_, ?_, ?_, ?_, ?_, ?_, ?_⟩ <;> first | (refine kc hb ?_ <;> (go_simp; first | done | rfl)) | (refine kfz hb ?_ ?_ <;> first | (go_size; done) | (go_simp; done))
  have hz := hb.size
  (try simp only [World.size_alloc, World.size_setCell, World.size_drew] at hz)
  have hlx' : w.heap.size < u.heap.size := by omega
  have hly' : w.heap.size + 1 < u.heap.size := by omega
  have hlg' : 0 < u.heap.size := by omega
  have hB' : Below w.heap.size w u := by
      refine kb ?_ hb
      go_grown
  clear hb hz
  obtain ⟨hx_0, hx_1, hy_0, fy_0, hy_1, fy_1, hy_2, fy_2, hg_0, hg_1, hg_2⟩ := T
  have hlx := hlx'; clear hlx'
  have hly := hly'; clear hly'
  have hlg := hlg'; clear hlg'
  have hnx0 : ¬ (w.heap.size = u.heap.size) := by omega
  have hnx1 : ¬ (w.heap.size = u.heap.size + 1) := by omega
  have hkx1 : w.heap.size < u.heap.size + 1 := by omega
  have hnx2 : ¬ (w.heap.size = u.heap.size + 1 + 1) := by omega
  have hkx2 : w.heap.size < u.heap.size + 1 + 1 := by omega
  have hny0 : ¬ (w.heap.size + 1 = u.heap.size) := by omega
  have hky1 : w.heap.size < u.heap.size := by omega
  have hng0 : ¬ (0 = u.heap.size) := by omega
  have hng1 : ¬ (0 = u.heap.size + 1) := by omega
  have hkg1 : 0 < u.heap.size + 1 := by omega
  have hng2 : ¬ (0 = u.heap.size + 1 + 1) := by omega
  have hkg2 : 0 < u.heap.size + 1 + 1 := by omega
  have hB := hB'; clear hB'
  have hsz := hB.size
  go_wp2_with fail
  refine wp_pin (fun w' => w'.cell? ⟨w.heap.size, 0, none⟩ = some (.int .u8 b) ∧ w'.cell? ⟨w.heap.size, 1, none⟩ = some (.int .i64 n) ∧ w'.cell? ⟨w.heap.size + 1, 0, none⟩ = some (.string ⟨#[]⟩) ∧ w'.frozen? ⟨w.heap.size + 1, 0, none⟩ = false ∧ w'.cell? ⟨w.heap.size + 1, 1, none⟩ = some (.int .i64 0) ∧ w'.frozen? ⟨w.heap.size + 1, 1, none⟩ = false ∧ w'.cell? ⟨w.heap.size + 1, 2, none⟩ = some (.int .i64 0) ∧ w'.frozen? ⟨w.heap.size + 1, 2, none⟩ = false ∧ w'.cell? ⟨u.heap.size, 0, none⟩ = some (.string N) ∧ w'.cell? ⟨u.heap.size, 1, none⟩ = some (.int .i64 m) ∧ w'.cell? ⟨u.heap.size, 2, none⟩ = some (.int .i64 K) ∧ w'.cell? ⟨0, m * 3, none⟩ = some (.string S) ∧ w'.cell? ⟨0, m * 3 + 1, none⟩ = some (.int .i64 D) ∧ w'.cell? ⟨0, m * 3 + 2, none⟩ = some (.string T) ∧ Below w.heap.size w w') ?_ ?_
  · (try dsimp only)
    refine ⟨?_, ?_, ?_, ?_, ?_, ?_, ?_, ?_, ?_, ?_, ?_, ?_, ?_, ?_, ?_⟩ <;> first | (go_simp; done) | (simp [*]; done) | go_grown
  intro u2 T
  (try dsimp only at T)
  clear hx_0 hx_1 hy_0 fy_0 hy_1 fy_1 hy_2 fy_2 hg_0 hg_1 hg_2 hlx hly hlg hnx0 hnx1 hkx1 hnx2 hkx2 hny0 hky1 hng0 hng1 hkg1 hng2 hkg2 hB hsz
  obtain ⟨hx_0, hx_1, hy_0, fy_0, hy_1, fy_1, hy_2, fy_2, hr_0, hr_1, hr_2, hg_0, hg_1, hg_2, hB⟩ := T
  have hsz := hB.size
  have hlx := klt hx_0
  have hly := klt hy_0
  have hlr := klt hr_0
  have hlg := klt hg_0
  have hnx0 : ¬ (w.heap.size = u2.heap.size) := by omega
  have hnx1 : ¬ (w.heap.size = u2.heap.size + 1) := by omega
  have hkx1 : w.heap.size < u2.heap.size + 1 := by omega
  have hnx2 : ¬ (w.heap.size = u2.heap.size + 1 + 1) := by omega
  have hkx2 : w.heap.size < u2.heap.size + 1 + 1 := by omega
  have hny0 : ¬ (w.heap.size + 1 = u2.heap.size) := by omega
  have hky1 : w.heap.size < u2.heap.size := by omega
  have hnr0 : ¬ (u.heap.size = u2.heap.size) := by omega
  have hnr1 : ¬ (u.heap.size = u2.heap.size + 1) := by omega
  have hkr1 : u.heap.size < u2.heap.size + 1 := by omega
  have hnr2 : ¬ (u.heap.size = u2.heap.size + 1 + 1) := by omega
  have hkr2 : u.heap.size < u2.heap.size + 1 + 1 := by omega
  have hng0 : ¬ (0 = u2.heap.size) := by omega
  have hng1 : ¬ (0 = u2.heap.size + 1) := by omega
  have hkg1 : 0 < u2.heap.size + 1 := by omega
  have hng2 : ¬ (0 = u2.heap.size + 1 + 1) := by omega
  have hkg2 : 0 < u2.heap.size + 1 + 1 := by omega
  refine wp_region_planT 7 (fun w' => w'.cell? ⟨w.heap.size, 0, none⟩ = some (.int .u8 b) ∧ w'.cell? ⟨w.heap.size, 1, none⟩ = some (.int .i64 n) ∧ w'.cell? ⟨w.heap.size + 1, 0, none⟩ = some (.string ⟨#[]⟩) ∧ w'.frozen? ⟨w.heap.size + 1, 0, none⟩ = false ∧ w'.cell? ⟨w.heap.size + 1, 1, none⟩ = some (.int .i64 0) ∧ w'.frozen? ⟨w.heap.size + 1, 1, none⟩ = false ∧ w'.cell? ⟨w.heap.size + 1, 2, none⟩ = some (.int .i64 0) ∧ w'.frozen? ⟨w.heap.size + 1, 2, none⟩ = false ∧ w'.cell? ⟨u.heap.size, 0, none⟩ = some (.string N) ∧ w'.cell? ⟨u.heap.size, 1, none⟩ = some (.int .i64 m) ∧ w'.cell? ⟨u.heap.size, 2, none⟩ = some (.int .i64 K) ∧ w'.cell? ⟨0, m * 3, none⟩ = some (.string S) ∧ w'.cell? ⟨0, m * 3 + 1, none⟩ = some (.int .i64 D) ∧ w'.cell? ⟨0, m * 3 + 2, none⟩ = some (.string T) ∧ Below w.heap.size w w') (by kernel_rfl) (by kernel_rfl) (by kernel_rfl) (by kernel_rfl) ?_ ?_
  · (try dsimp only)
    refine ⟨?_, ?_, ?_, ?_, ?_, ?_, ?_, ?_, ?_, ?_, ?_, ?_, ?_, ?_, ?_⟩ <;> first | (go_simp; done) | (simp [*]; done) | go_grown
  (try simp only [List.append_eq, List.cons_append, List.nil_append, List.toList_toArray, List.take_succ_cons, List.take_zero, List.drop_succ_cons, List.drop_zero])
  repeat (first
    | (refine Plan.val (v := ?_) ?_ ?_ ?_; rotate_left; (· rfl); (· (intro W hSw; (try dsimp only at hSw); go_simp; all_goals (first | (with_reducible rfl) | (constructor <;> (with_reducible rfl))))); (try simp only [Act.put, List.setIfInBounds_toArray, List.set_cons_zero, List.set_cons_succ]))
    | (refine Plan.no ?_ ?_; (· rfl); (try simp only [Act.put, List.setIfInBounds_toArray, List.set_cons_zero, List.set_cons_succ]))
    | (refine Plan.call (v := ?_) (f := ?_) (args := ?_) ?_ ?_ ?_ ?_; rotate_left 3; (· rfl); (· (intro W hSw; (try dsimp only at hSw); go_simp; all_goals (first | (with_reducible rfl) | (constructor <;> (with_reducible rfl))))); (· (intro W hSw; (try dsimp only at hSw); first | (go_at_call 28; ((with_reducible refine (HH.out _).mono ?_); rintro _ wz ⟨rfl, hb⟩; (refine ⟨?_, ?_⟩; (· with_reducible rfl); exact ⟨kc hb hSw.1, kc hb hSw.2.1, kc hb hSw.2.2.1, kfz hb (klt hSw.2.2.1) hSw.2.2.2.1, kc hb hSw.2.2.2.2.1, kfz hb (klt hSw.2.2.2.2.1) hSw.2.2.2.2.2.1, kc hb hSw.2.2.2.2.2.2.1, kfz hb (klt hSw.2.2.2.2.2.2.1) hSw.2.2.2.2.2.2.2.1, kc hb hSw.2.2.2.2.2.2.2.2.1, kc hb hSw.2.2.2.2.2.2.2.2.2.1, kc hb hSw.2.2.2.2.2.2.2.2.2.2.1, kc hb hSw.2.2.2.2.2.2.2.2.2.2.2.1, kc hb hSw.2.2.2.2.2.2.2.2.2.2.2.2.1, kc hb hSw.2.2.2.2.2.2.2.2.2.2.2.2.2.1, kb hSw.2.2.2.2.2.2.2.2.2.2.2.2.2.2 hb⟩))))); (try simp only [Act.put, List.setIfInBounds_toArray, List.set_cons_zero, List.set_cons_succ])))
  refine Plan.done ?_
  intro u3 T
  (try dsimp only at T)
  clear hx_0 hx_1 hy_0 fy_0 hy_1 fy_1 hy_2 fy_2 hr_0 hr_1 hr_2 hg_0 hg_1 hg_2 hB hsz hlx hly hlr hlg hnx0 hnx1 hkx1 hnx2 hkx2 hny0 hky1 hnr0 hnr1 hkr1 hnr2 hkr2 hng0 hng1 hkg1 hng2 hkg2
  obtain ⟨hx_0, hx_1, hy_0, fy_0, hy_1, fy_1, hy_2, fy_2, hr_0, hr_1, hr_2, hg_0, hg_1, hg_2, hB⟩ := T
  have hsz := hB.size
  have hlx := klt hx_0
  have hly := klt hy_0
  have hlr := klt hr_0
  have hlg := klt hg_0
  have hnx0 : ¬ (w.heap.size = u3.heap.size) := by omega
  have hnx1 : ¬ (w.heap.size = u3.heap.size + 1) := by omega
  have hkx1 : w.heap.size < u3.heap.size + 1 := by omega
  have hnx2 : ¬ (w.heap.size = u3.heap.size + 1 + 1) := by omega
  have hkx2 : w.heap.size < u3.heap.size + 1 + 1 := by omega
  have hny0 : ¬ (w.heap.size + 1 = u3.heap.size) := by omega
  have hky1 : w.heap.size < u3.heap.size := by omega
  have hnr0 : ¬ (u.heap.size = u3.heap.size) := by omega
  have hnr1 : ¬ (u.heap.size = u3.heap.size + 1) := by omega
  have hkr1 : u.heap.size < u3.heap.size + 1 := by omega
  have hnr2 : ¬ (u.heap.size = u3.heap.size + 1 + 1) := by omega
  have hkr2 : u.heap.size < u3.heap.size + 1 + 1 := by omega
  have hng0 : ¬ (0 = u3.heap.size) := by omega
  have hng1 : ¬ (0 = u3.heap.size + 1) := by omega
  have hkg1 : 0 < u3.heap.size + 1 := by omega
  have hng2 : ¬ (0 = u3.heap.size + 1 + 1) := by omega
  have hkg2 : 0 < u3.heap.size + 1 + 1 := by omega
  have s3 := three_cells hy_0 hy_1 hy_2
  cases B
  · go_wp2
    refine bodyPost_ret (v := .tuple #[.agg #[.string N, .int .i64 m, .int .i64 K], .int .i64 0]) (by simp [results, Tryz.results15, go_sem, s3]) rfl ⟨rfl, by go_grown⟩
  · go_wp2
    refine bodyPost_ret (v := .tuple #[.agg #[.string ⟨#[]⟩, .int .i64 0, .int .i64 0], .int .i64 10]) (by simp [results, Tryz.results15, go_sem, s3]) rfl ⟨rfl, by go_grown⟩
end Go.Proofs.YtpjpoopgafcedaaGreatDoor
set_option linter.unusedSimpArgs false
set_option linter.unusedVariables false
namespace Go.Proofs.YtpjpoopgafcedaaGreatDoor
open Go.RowKit Go.PlainAid

/-- Where an opcode stands in the document's table. -/
theorem op_place (b : Nat) (ho : isOp b = true) : ∃ p, placeL.getD b none = some p ∧ nm b = nameL.getD (p / 13) [] ∧ md b = ((p % 13 : Nat) : Int) := by
  unfold isOp at ho
  cases h : placeL.getD b none with
  | none => rw [h] at ho; cases ho
  | some p => exact ⟨p, rfl, by unfold nm; rw [h], by unfold md; rw [h]⟩
theorem no_place (b : Nat) (ho : isOp b = false) : placeL.getD b none = none := by
  unfold isOp at ho
  cases h : placeL.getD b none with
  | none => rfl
  | some p => rw [h] at ho; cases ho
/-- What is wrong with a line, and what its opcode is. -/
def checkC (b : Nat) (n : Int) : Array Value := if wrongD b n = 0 then opC b else #[.string ⟨#[]⟩, .int .i64 0, .int .i64 0]
theorem check_c (b : Nat) (hb : b < 256) (n : Int) (w : World) (hl : Laid w) :
    Calls Tryz.prog 15 #[.agg #[.int .u8 b, .int .i64 n]] w fun e w' => e = .returned (.tuple #[.agg (checkC b n), .int .i64 (wrongD b n)]) ∧ Below w.heap.size w w' := by
  cases ho : isOp b
  · have e1 : wrongD b n = 13 := by unfold wrongD; rw [no_place b ho]
    have e2 : checkC b n = #[.string ⟨#[]⟩, .int .i64 0, .int .i64 0] := by unfold checkC; rw [e1]; rfl
    rw [e1, e2]
    exact check_no b hb ho n w
  · obtain ⟨p, hp, _, hmd⟩ := op_place b ho
    have e1 : wrongD b n = if n < 0 ∨ mostD ((p % 13 : Nat) : Int) < n then 10 else 0 := by unfold wrongD; rw [hp]
    have e2 : checkC b n = if n < 0 ∨ mostD ((p % 13 : Nat) : Int) < n then #[.string ⟨#[]⟩, .int .i64 0, .int .i64 0] else opC b := by
      unfold checkC; rw [e1]
      split
      · rw [if_neg (by decide)]
      · rw [if_pos rfl]
    rw [e1, e2]
    exact check_op b (p % 13) hb ho (Nat.mod_lt _ (by omega)) hmd n w hl
theorem tail_is (n : Nat) : ∀ m : Nat, m < 13 → tailD (m : Int) n = befP m ++ digsL n (dgP m) ++ aftP m := by
  intro m hm
  have h1 : m = 0 ∨ m = 1 ∨ m = 2 ∨ m = 3 ∨ m = 4 ∨ m = 5 ∨ m = 6 ∨ m = 7 ∨ m = 8 ∨ m = 9 ∨ m = 10 ∨ m = 11 ∨ m = 12 := by omega
  rcases h1 with rfl | rfl | rfl | rfl | rfl | rfl | rfl | rfl | rfl | rfl | rfl | rfl | rfl <;> rfl
/-- A line's text. -/
def printL (b : Nat) (n : Int) : List UInt8 := if wrongD b n = 0 then textD b n.toNat else []
set_option maxRecDepth 100000 in
set_option maxHeartbeats 1000000 in
theorem print_no (b : Nat) (hb : b < 256) (n : Int) (w : World) (hl : Laid w) (hw : wrongD b n ≠ 0) :
    Calls Tryz.prog 8 #[.agg #[.int .u8 b, .int .i64 n]] w fun e w' => e = .returned (.tuple #[.string ⟨#[]⟩, .int .i64 (wrongD b n)]) ∧ Below w.heap.size w w' := by
  have HC := Lib.hid (fun W hl => check_c b hb n W hl)
  have e2 : checkC b n = #[.string ⟨#[]⟩, .int .i64 0, .int .i64 0] := by unfold checkC; rw [if_neg hw]
  rw [e2] at HC
  have hd : (wrongD b n != 0) = true := by rw [bne_iff_ne]; exact hw
  generalize wrongD b n = V at *
  clear hw e2
  go_enter Tryz.func8, Tryz.ntmps8
  go_wp2_with fail
  ((with_reducible refine (HC.out _ (hl.below (by go_grown))).mono ?_); rintro _ u ⟨rfl, hb⟩)
  have T : u.cell? ⟨w.heap.size, 0, none⟩ = some (.int .u8 b) ∧ u.cell? ⟨w.heap.size, 1, none⟩ = some (.int .i64 n) := by
      refine ⟨?_, ?_⟩ <;> refine kc hb ?_ <;> (go_simp; first | done | rfl)
  have hz := hb.size
  (try simp only [World.size_alloc, World.size_setCell, World.size_drew] at hz)
  have hlx' : w.heap.size < u.heap.size := by omega
  have hB' : Below w.heap.size w u := by
      refine kb ?_ hb
      go_grown
  clear hb hz
  obtain ⟨hx_0, hx_1⟩ := T
  have hlx := hlx'; clear hlx'
  have hnx0 : ¬ (w.heap.size = u.heap.size) := by omega
  have hnx1 : ¬ (w.heap.size = u.heap.size + 1) := by omega
  have hkx1 : w.heap.size < u.heap.size + 1 := by omega
  have hnx2 : ¬ (w.heap.size = u.heap.size + 1 + 1) := by omega
  have hkx2 : w.heap.size < u.heap.size + 1 + 1 := by omega
  have hB := hB'; clear hB'
  have hsz := hB.size
  go_wp2
  refine bodyPost_ret (v := .tuple #[.string ⟨#[]⟩, .int .i64 V]) (by simp [results, Tryz.results8, go_sem]) rfl ⟨rfl, by go_grown⟩
set_option maxRecDepth 100000 in
set_option maxHeartbeats 1000000 in
theorem print_op (b m n : Nat) (hb : b < 256) (ho : isOp b = true) (hm : m < 13) (hmd : md b = (m : Int)) (hw : wrongD b n = 0) (hn : n < 16 ^ dgP m) (w : World) (hl : Laid w) :
    Calls Tryz.prog 8 #[.agg #[.int .u8 b, .int .i64 n]] w fun e w' => e = .returned (.tuple #[.string (txB (nm b ++ tailD m n)), .int .i64 0]) ∧ Below w.heap.size w w' := by
  have HC := Lib.hid (fun W hl => check_c b hb n W hl)
  have e2 : checkC b n = #[.string (txB (nm b)), .int .i64 m, .int .i64 (kindP (nm b) (md b))] := by unfold checkC opC; rw [hw, if_pos rfl, ho, hmd]; rfl
  rw [e2, hw] at HC
  have HP := Lib.hid (fun (w : World) hT => print_c (befP m) (aftP m) (dgP m) n (dg_ways ⟨m, hm⟩) (bef_len ⟨m, hm⟩) (aft_len ⟨m, hm⟩) hn w hT)
  rw [← tail_is n m hm] at HP
  have k0 := hl.at m 0 hm (by omega)
  have k1 := hl.at m 1 hm (by omega)
  have k2 := hl.at m 2 hm (by omega)
  simp only [Nat.add_zero] at k0
  have hlg : 0 < w.heap.size := by obtain ⟨⟨t, fr, h⟩, _⟩ := hl; exact (Array.getElem?_eq_some_iff.1 h).1
  have hng : ¬ (0 = w.heap.size) := by omega
  have hng1 : ¬ (0 = w.heap.size + 1) := by omega
  have hm13 : (m : Int) < 13 := by omega
  unfold arV at *
  have e0 : (arC m)[0]? = some (.string (txB (befP m))) := rfl
  have e1 : (arC m)[1]? = some (.int .i64 (dgP m)) := rfl
  have e2' : (arC m)[2]? = some (.string (txB (aftP m))) := rfl
  rw [e0] at k0
  rw [e1] at k1
  rw [e2'] at k2
  have htz := hl.2
  have hlz : 9 < w.heap.size := klt htz
  have hlen : (txB (nm b)).size = 3 := by
    rw [txB_size]
    obtain ⟨p, hp, hnm, _⟩ := op_place b ho
    rw [hnm]
    exact name_len ⟨p / 13, by have := place_bound b hb p hp; omega⟩
  have hlt : (txB (tailD m n)).size ≤ 100 := by
    rw [txB_size, tail_is n m hm, List.length_append, List.length_append, digsL_len]
    have := bef_len ⟨m, hm⟩
    have := aft_len ⟨m, hm⟩
    have := dg_four m hm
    dsimp only at *
    omega
  have hs1 : ¬ 9223372036854775807 < 3 + (txB (tailD m n)).size := by omega
  have HV := Lib.hid (show txB (nm b) ++ txB (tailD m n) = txB (nm b ++ tailD m n) from txB_append _ _)
  generalize txB (nm b ++ tailD m n) = R at *
  generalize txB (tailD m n) = Q at *
  generalize txB (nm b) = N at *
  generalize kindP (nm b) (md b) = K at *
  generalize txB (befP m) = S at *
  generalize txB (aftP m) = T at *
  generalize dgP m = D at *
  clear e0 e1 e2 e2' hlt hn hw
  go_enter Tryz.func8, Tryz.ntmps8
  go_wp2_with fail
  ((with_reducible refine (HC.out _ (hl.below (by go_grown))).mono ?_); rintro _ u ⟨rfl, hb⟩)
  have T : u.cell? ⟨w.heap.size, 0, none⟩ = some (.int .u8 b) ∧ u.cell? ⟨w.heap.size, 1, none⟩ = some (.int .i64 n) ∧ u.cell? ⟨0, m * 3, none⟩ = some (.string S) ∧ u.cell? ⟨0, m * 3 + 1, none⟩ = some (.int .i64 D) ∧ u.cell? ⟨0, m * 3 + 2, none⟩ = some (.string T) ∧ u.cell? ⟨9, 15, none⟩ = some (.int .u8 4) := by
      refine ⟨?_, ?_, ?_, ?_, ?_, ?_⟩ <;> refine kc hb ?_ <;> (go_simp; first | done | rfl)
  have hz := hb.size
  (try simp only [World.size_alloc, World.size_setCell, World.size_drew] at hz)
  have hlx' : w.heap.size < u.heap.size := by omega
  have hlg' : 0 < u.heap.size := by omega
  have hlz' : 9 < u.heap.size := by omega
  have hB' : Below w.heap.size w u := by
      refine kb ?_ hb
      go_grown
  clear hb hz
  obtain ⟨hx_0, hx_1, hg_0, hg_1, hg_2, hz_0⟩ := T
  have hlx := hlx'; clear hlx'
  have hlg := hlg'; clear hlg'
  have hlz := hlz'; clear hlz'
  have hnx0 : ¬ (w.heap.size = u.heap.size) := by omega
  have hnx1 : ¬ (w.heap.size = u.heap.size + 1) := by omega
  have hkx1 : w.heap.size < u.heap.size + 1 := by omega
  have hnx2 : ¬ (w.heap.size = u.heap.size + 1 + 1) := by omega
  have hkx2 : w.heap.size < u.heap.size + 1 + 1 := by omega
  have hng0 : ¬ (0 = u.heap.size) := by omega
  have hng1 : ¬ (0 = u.heap.size + 1) := by omega
  have hkg1 : 0 < u.heap.size + 1 := by omega
  have hng2 : ¬ (0 = u.heap.size + 1 + 1) := by omega
  have hkg2 : 0 < u.heap.size + 1 + 1 := by omega
  have hnz0 : ¬ (9 = u.heap.size) := by omega
  have hnz1 : ¬ (9 = u.heap.size + 1) := by omega
  have hkz1 : 9 < u.heap.size + 1 := by omega
  have hnz2 : ¬ (9 = u.heap.size + 1 + 1) := by omega
  have hkz2 : 9 < u.heap.size + 1 + 1 := by omega
  have hB := hB'; clear hB'
  have hsz := hB.size
  go_wp2_with fail
  refine wp_pin (fun w' => w'.cell? ⟨w.heap.size, 0, none⟩ = some (.int .u8 b) ∧ w'.cell? ⟨w.heap.size, 1, none⟩ = some (.int .i64 n) ∧ w'.cell? ⟨u.heap.size, 0, none⟩ = some (.string N) ∧ w'.cell? ⟨u.heap.size, 1, none⟩ = some (.int .i64 m) ∧ w'.cell? ⟨u.heap.size, 2, none⟩ = some (.int .i64 K) ∧ w'.cell? ⟨0, m * 3, none⟩ = some (.string S) ∧ w'.cell? ⟨0, m * 3 + 1, none⟩ = some (.int .i64 D) ∧ w'.cell? ⟨0, m * 3 + 2, none⟩ = some (.string T) ∧ w'.cell? ⟨9, 15, none⟩ = some (.int .u8 4) ∧ Below w.heap.size w w') ?_ ?_
  · (try dsimp only)
    refine ⟨?_, ?_, ?_, ?_, ?_, ?_, ?_, ?_, ?_, ?_⟩ <;> first | (go_simp; done) | (simp [*]; done) | go_grown
  intro u2 T
  (try dsimp only at T)
  clear hx_0 hx_1 hg_0 hg_1 hg_2 hz_0 hlx hlg hlz hnx0 hnx1 hkx1 hnx2 hkx2 hng0 hng1 hkg1 hng2 hkg2 hnz0 hnz1 hkz1 hnz2 hkz2 hB hsz
  obtain ⟨hx_0, hx_1, hr_0, hr_1, hr_2, hg_0, hg_1, hg_2, hz_0, hB⟩ := T
  have hsz := hB.size
  have hlx := klt hx_0
  have hlr := klt hr_0
  have hlg := klt hg_0
  have hlz := klt hz_0
  have hnx0 : ¬ (w.heap.size = u2.heap.size) := by omega
  have hnx1 : ¬ (w.heap.size = u2.heap.size + 1) := by omega
  have hkx1 : w.heap.size < u2.heap.size + 1 := by omega
  have hnx2 : ¬ (w.heap.size = u2.heap.size + 1 + 1) := by omega
  have hkx2 : w.heap.size < u2.heap.size + 1 + 1 := by omega
  have hnr0 : ¬ (u.heap.size = u2.heap.size) := by omega
  have hnr1 : ¬ (u.heap.size = u2.heap.size + 1) := by omega
  have hkr1 : u.heap.size < u2.heap.size + 1 := by omega
  have hnr2 : ¬ (u.heap.size = u2.heap.size + 1 + 1) := by omega
  have hkr2 : u.heap.size < u2.heap.size + 1 + 1 := by omega
  have hng0 : ¬ (0 = u2.heap.size) := by omega
  have hng1 : ¬ (0 = u2.heap.size + 1) := by omega
  have hkg1 : 0 < u2.heap.size + 1 := by omega
  have hng2 : ¬ (0 = u2.heap.size + 1 + 1) := by omega
  have hkg2 : 0 < u2.heap.size + 1 + 1 := by omega
  have hnz0 : ¬ (9 = u2.heap.size) := by omega
  have hnz1 : ¬ (9 = u2.heap.size + 1) := by omega
  have hkz1 : 9 < u2.heap.size + 1 := by omega
  have hnz2 : ¬ (9 = u2.heap.size + 1 + 1) := by omega
  have hkz2 : 9 < u2.heap.size + 1 + 1 := by omega
  refine wp_region_planT 9 (fun w' => w'.cell? ⟨w.heap.size, 0, none⟩ = some (.int .u8 b) ∧ w'.cell? ⟨w.heap.size, 1, none⟩ = some (.int .i64 n) ∧ w'.cell? ⟨u.heap.size, 0, none⟩ = some (.string N) ∧ w'.cell? ⟨u.heap.size, 1, none⟩ = some (.int .i64 m) ∧ w'.cell? ⟨u.heap.size, 2, none⟩ = some (.int .i64 K) ∧ w'.cell? ⟨0, m * 3, none⟩ = some (.string S) ∧ w'.cell? ⟨0, m * 3 + 1, none⟩ = some (.int .i64 D) ∧ w'.cell? ⟨0, m * 3 + 2, none⟩ = some (.string T) ∧ w'.cell? ⟨9, 15, none⟩ = some (.int .u8 4) ∧ Below w.heap.size w w') (by kernel_rfl) (by kernel_rfl) (by kernel_rfl) (by kernel_rfl) ?_ ?_
  · (try dsimp only)
    refine ⟨?_, ?_, ?_, ?_, ?_, ?_, ?_, ?_, ?_, ?_⟩ <;> first | (go_simp; done) | (simp [*]; done) | go_grown
  (try simp only [List.append_eq, List.cons_append, List.nil_append, List.toList_toArray, List.take_succ_cons, List.take_zero, List.drop_succ_cons, List.drop_zero])
  repeat (first
    | (refine Plan.val (v := ?_) ?_ ?_ ?_; rotate_left; (· rfl); (· (intro W hSw; (try dsimp only at hSw); go_simp; all_goals (first | (with_reducible rfl) | (constructor <;> (with_reducible rfl))))); (try simp only [Act.put, List.setIfInBounds_toArray, List.set_cons_zero, List.set_cons_succ]))
    | (refine Plan.no ?_ ?_; (· rfl); (try simp only [Act.put, List.setIfInBounds_toArray, List.set_cons_zero, List.set_cons_succ]))
    | (refine Plan.call (v := ?_) (f := ?_) (args := ?_) ?_ ?_ ?_ ?_; rotate_left 3; (· rfl); (· (intro W hSw; (try dsimp only at hSw); go_simp; all_goals (first | (with_reducible rfl) | (constructor <;> (with_reducible rfl))))); (· (intro W hSw; (try dsimp only at hSw); first | (go_at_call 16; ((with_reducible refine (HP.out _ hSw.2.2.2.2.2.2.2.2.1).mono ?_); rintro _ wz ⟨rfl, hb⟩; (refine ⟨?_, ?_⟩; (· with_reducible rfl); exact ⟨kc hb hSw.1, kc hb hSw.2.1, kc hb hSw.2.2.1, kc hb hSw.2.2.2.1, kc hb hSw.2.2.2.2.1, kc hb hSw.2.2.2.2.2.1, kc hb hSw.2.2.2.2.2.2.1, kc hb hSw.2.2.2.2.2.2.2.1, kc hb hSw.2.2.2.2.2.2.2.2.1, kb hSw.2.2.2.2.2.2.2.2.2 hb⟩))))); (try simp only [Act.put, List.setIfInBounds_toArray, List.set_cons_zero, List.set_cons_succ])))
  refine Plan.done ?_
  intro u3 T
  (try dsimp only at T)
  clear hx_0 hx_1 hr_0 hr_1 hr_2 hg_0 hg_1 hg_2 hz_0 hB hsz hlx hlr hlg hlz hnx0 hnx1 hkx1 hnx2 hkx2 hnr0 hnr1 hkr1 hnr2 hkr2 hng0 hng1 hkg1 hng2 hkg2 hnz0 hnz1 hkz1 hnz2 hkz2
  obtain ⟨hx_0, hx_1, hr_0, hr_1, hr_2, hg_0, hg_1, hg_2, hz_0, hB⟩ := T
  have hsz := hB.size
  have hlx := klt hx_0
  have hlr := klt hr_0
  have hlg := klt hg_0
  have hlz := klt hz_0
  have hnx0 : ¬ (w.heap.size = u3.heap.size) := by omega
  have hnx1 : ¬ (w.heap.size = u3.heap.size + 1) := by omega
  have hkx1 : w.heap.size < u3.heap.size + 1 := by omega
  have hnx2 : ¬ (w.heap.size = u3.heap.size + 1 + 1) := by omega
  have hkx2 : w.heap.size < u3.heap.size + 1 + 1 := by omega
  have hnr0 : ¬ (u.heap.size = u3.heap.size) := by omega
  have hnr1 : ¬ (u.heap.size = u3.heap.size + 1) := by omega
  have hkr1 : u.heap.size < u3.heap.size + 1 := by omega
  have hnr2 : ¬ (u.heap.size = u3.heap.size + 1 + 1) := by omega
  have hkr2 : u.heap.size < u3.heap.size + 1 + 1 := by omega
  have hng0 : ¬ (0 = u3.heap.size) := by omega
  have hng1 : ¬ (0 = u3.heap.size + 1) := by omega
  have hkg1 : 0 < u3.heap.size + 1 := by omega
  have hng2 : ¬ (0 = u3.heap.size + 1 + 1) := by omega
  have hkg2 : 0 < u3.heap.size + 1 + 1 := by omega
  have hnz0 : ¬ (9 = u3.heap.size) := by omega
  have hnz1 : ¬ (9 = u3.heap.size + 1) := by omega
  have hkz1 : 9 < u3.heap.size + 1 := by omega
  have hnz2 : ¬ (9 = u3.heap.size + 1 + 1) := by omega
  have hkz2 : 9 < u3.heap.size + 1 + 1 := by omega
  go_wp2
  refine bodyPost_ret (v := .tuple #[.string R, .int .i64 0]) (by simp [results, Tryz.results8, go_sem, HV.out]) rfl ⟨rfl, by go_grown⟩
theorem wrong_zero (b : Nat) (n : Int) (h : wrongD b n = 0) : ∃ p, placeL.getD b none = some p ∧ 0 ≤ n ∧ n ≤ mostD ((p % 13 : Nat) : Int) := by
  unfold wrongD at h
  cases hp : placeL.getD b none with
  | none => rw [hp] at h; cases h
  | some p =>
    rw [hp] at h
    dsimp only at h
    by_cases hc : n < 0 ∨ mostD ((p % 13 : Nat) : Int) < n
    · rw [if_pos hc] at h; cases h
    · exact ⟨p, rfl, by omega, by omega⟩
theorem printl_c (b : Nat) (hb : b < 256) (n : Int) (w : World) (hl : Laid w) :
    Calls Tryz.prog 8 #[.agg #[.int .u8 b, .int .i64 n]] w fun e w' => e = .returned (.tuple #[.string (txB (printL b n)), .int .i64 (wrongD b n)]) ∧ Below w.heap.size w w' := by
  by_cases hw : wrongD b n = 0
  · obtain ⟨p, hp, h0, h1⟩ := wrong_zero b n hw
    have ho : isOp b = true := by unfold isOp; rw [hp]; rfl
    obtain ⟨p', hp', hnm, hmd⟩ := op_place b ho
    obtain rfl : p' = p := Option.some.inj (hp'.symm.trans hp)
    obtain ⟨k, rfl⟩ : ∃ k : Nat, n = k := ⟨n.toNat, by omega⟩
    have e : printL b k = nm b ++ tailD ((p' % 13 : Nat) : Int) k := by
      unfold printL textD
      rw [if_pos hw, hp, hnm]
      simp only [Int.toNat_natCast]
    have hd := most_dg ⟨p' % 13, Nat.mod_lt _ (by omega)⟩
    dsimp only at hd
    rw [e, hw]
    exact print_op b (p' % 13) k hb ho (Nat.mod_lt _ (by omega)) hmd hw (by omega) w hl
  · have e : printL b n = [] := by unfold printL; rw [if_neg hw]
    rw [e]
    exact print_no b hb n w hl hw
end Go.Proofs.YtpjpoopgafcedaaGreatDoor
