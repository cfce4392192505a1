/-
  strconv.FormatInt at base 16: the library's own text walked, at numbers below 2^20.
-/
import Derived.Test.YtbnmibkmddhniaaDoorBase
import Derived.Laws.Bits64b
import Derived.Laws.Rows
set_option linter.unusedSimpArgs false
set_option linter.unusedVariables false
namespace Go.Proofs.YtbnmibkmddhniaaDoor
open Go.RowKit Go.PlainAid

theorem tz_c (w : World) (hT : w.cell? ⟨5, 15, none⟩ = some (.int .u8 4)) : Calls Tryd.prog 71 #[.int .u64 16] w fun e w' => e = .returned (.int .i64 4) ∧ w = w' := by
  have h1 : IntKind.u64.wrap (-16) = 18446744073709551600 := by decide
  have h2 : bits BinOp.and IntKind.u64 16 18446744073709551600 = 16 := by decide +kernel
  have h3 : IntKind.u64.wrap (16 * 285870213051353865) = 4573923408821661840 := by decide
  go_enter Tryd.func71, Tryd.ntmps71
  go_wp2
  go_ret
  exact ⟨rfl, rfl⟩
theorem pow2_c (w : World) : Calls Tryd.prog 70 #[.int .i64 16] w fun e w' => e = .returned (.bool true) ∧ w = w' := by
  have b1 : bits BinOp.and IntKind.i64 16 15 = 0 := by decide +kernel
  go_enter Tryd.func70, Tryd.ntmps70
  go_wp2
  go_ret
  exact ⟨rfl, rfl⟩

/-- A hexadecimal digit's small letter; a number's small digits. -/
def lowL (d : Nat) : UInt8 := if d < 10 then (48 + d).toUInt8 else (87 + d).toUInt8
def lowsL (n : Nat) : Nat → List UInt8
  | 0 => []
  | k + 1 => lowL (n / 16 ^ k % 16) :: lowsL n k
def digit36 : ByteArray := ⟨#[48, 49, 50, 51, 52, 53, 54, 55, 56, 57, 97, 98, 99, 100, 101, 102, 103, 104, 105, 106, 107, 108, 109, 110, 111, 112, 113, 114, 115, 116, 117, 118, 119, 120, 121, 122]⟩
theorem low_at : ∀ d : Fin 16, (digit36[d.val]'(Nat.lt_of_lt_of_le d.isLt (by decide))) = lowL d.val := by decide +kernel
theorem low_ix (d : Nat) (hd : d < 16) (w : World) : (Instr.index 9 (.string digit36) (.int .u64 d)).run Tryd.prog w = .ok (.int .u8 (lowL d).toNat) w := by
  have h := low_at ⟨d, hd⟩
  have hz : digit36.size = 36 := by decide
  rw [run_index_string _ _ _ _ _ Tryd.underlying9, dif_pos (by rw [hz]; omega)]
  simp only [Int.toNat_natCast]
  rw [h]
theorem and15 (N : Nat) (h : N < 1048576) : bits .and .u64 (N : Int) 15 = ((N % 16 : Nat) : Int) := by
  rw [show (15 : Int) = ((15 : Nat) : Int) from rfl, bits_and_u64_nat _ _ (by omega) (by omega), show (15 : Nat) = 2 ^ 4 - 1 from rfl, Nat.and_two_pow_sub_one_eq_mod]
theorem slice_c (B : Nat) (I : Int) (h0 : 1 ≤ I) (h1 : I ≤ 65) (W : World) : (Instr.sliceAt 111 (.pointer (some ⟨B, 0, none⟩)) (some (.int .i64 (I - 1))) none none).run Tryd.prog W = .ok (.slice (some ⟨B, I.toNat - 1, none⟩) (65 - (I.toNat - 1)) (65 - (I.toNat - 1))) W := by
  have e1 : Tryd.prog.arrayLen 111 = 65 := by kernel_rfl
  have e2 : (sizeOf (Tryd.prog.elem 111)).run Tryd.prog W = .ok 1 W := by kernel_rfl
  rw [run_sliceAt_array_l W 111 ⟨B, 0, none⟩ (by kernel_rfl) .i64 (I - 1) (by omega) (by rw [e1]; omega), e2, e1]
  show Result.ok (slicedAt ⟨B, 0, none⟩ (I - 1).toNat 65 65 1) W = _
  unfold slicedAt
  have e3 : (I - 1).toNat = I.toNat - 1 := by omega
  rw [if_neg (by omega), e3, Addr.add_lit]
  simp
theorem lows_len (n : Nat) : ∀ k, (lowsL n k).length = k
  | 0 => rfl
  | k + 1 => by show (lowsL n k).length + 1 = k + 1; rw [lows_len n k]
theorem lows_at (n : Nat) : ∀ (k j : Nat), j < k → (lowsL n k)[j]? = some (lowL (n / 16 ^ (k - 1 - j) % 16))
  | k + 1, 0, _ => by show some _ = _; simp
  | k + 1, j + 1, h => by
    show (lowsL n k)[j]? = _
    rw [lows_at n k j (by omega), show k - 1 - j = k + 1 - 1 - (j + 1) by omega]
theorem conv_digits (W : World) (B n j : Nat) (hj : j < 5) (h : ∀ t, t < j + 1 → W.cell? ⟨B, 64 - t, none⟩ = some (.int .u8 (lowL (n / 16 ^ t % 16)).toNat)) :
    (convert 56 9 (.slice (some ⟨B, 64 - j, none⟩) (j + 1) (j + 1))).run Tryd.prog W = .ok (.string (txB (lowsL n (j + 1)))) W := by
  have hc := run_convert_bytes_back (P := Tryd.prog) W 56 9 5 ⟨B, 64 - j, none⟩ (j + 1) (lowsL n (j + 1)) Tryd.underlying56 Tryd.underlying5 Tryd.underlying9 (fun i hi => by
    rw [lows_len] at hi
    have e := lows_at n (j + 1) i hi
    rw [List.getElem?_eq_getElem (by rw [lows_len]; exact hi)] at e
    rw [Option.some.inj e, Addr.add_lit, show 64 - j + i = 64 - (j - i) by omega, h (j - i) (by omega), show j + 1 - 1 - i = j - i by omega])
  rw [lows_len] at hc
  exact hc
set_option maxRecDepth 100000 in
set_option maxHeartbeats 1000000 in
theorem bits_c (n : Nat) (w : World) (hT : w.cell? ⟨5, 15, none⟩ = some (.int .u8 4)) (hn : n < 1048576) (k : Nat) (hk : k = 0 ∨ 16 ^ k ≤ n) (hk2 : n < 16 ^ (k + 1)) : Calls Tryd.prog 57 #[.slice none 0 0, .int .u64 n, .int .i64 16, .bool false, .bool false] w fun e w' => e = .returned (.tuple #[.slice none 0 0, .string (txB (lowsL n (k + 1)))]) ∧ Below w.heap.size w w' := by
  have HT := Lib.hid (fun o => tz_c (w.alloc o) (kc ((Below.refl _ w).alloc (Nat.le_refl _) o) hT))
  go_enter Tryd.func57, Tryd.ntmps57
  go_wp2_with (first | (go_at_call 71; (with_reducible refine (HT.out _).mono ?_); rintro _ _ ⟨rfl, rfl⟩) | (go_at_call 70; (with_reducible refine (pow2_c _).mono ?_); rintro _ _ ⟨rfl, rfl⟩))
  go_loopw [1, 13] (fun u i wr => ∃ (j : Nat) (A : Array Value), j ≤ k ∧ u = .int .u64 ((n / 16 ^ j : Nat) : Int) ∧ i = .int .i64 (65 - (j : Int)) ∧ Hid (A.size = 65 ∧ ∀ t, t < j → A[64 - t]? = some (.int .u8 (lowL (n / 16 ^ t % 16)).toNat)) ∧ wr.heap[w.heap.size]? = some (.cells A 111 (0, 0)) ∧ Below w.heap.size w wr) (fun u i _ => (intOf i).toNat)
  case atStart =>
    refine ⟨0, Tryd.zeroCells111, by omega, by simp, rfl, Lib.hid ⟨by kernel_rfl, fun t h => by omega⟩, ?_, by go_grown⟩
    exact heap_alloc_new w _
  case round =>
    obtain ⟨j, A, hj, rfl, rfl, HA, hg, hB⟩ := hrel
    have hNn : n / 16 ^ j ≤ n := Nat.div_le_self _ _
    obtain ⟨hA, hAt⟩ := HA.out
    have hj4 : k < 5 := by
      refine Nat.lt_of_not_le fun h => ?_
      have : 16 ^ 5 ≤ 16 ^ k := Nat.pow_le_pow_right (by omega) h
      rcases hk with hk | hk <;> omega
    by_cases hlt : j < k
    · have hge : 16 ≤ n / 16 ^ j := by
        rw [Nat.le_div_iff_mul_le (Nat.pow_pos (by omega))]
        refine Nat.le_trans ?_ (hk.resolve_left (by omega))
        rw [← Nat.pow_succ']
        exact Nat.pow_le_pow_right (by omega) (by omega)
      generalize hNe : n / 16 ^ j = N at *
      obtain ⟨I, hI⟩ : ∃ I : Int, I = 65 - (j : Int) := ⟨_, rfl⟩
      rw [← hI]
      have hN : decide ((16 : Int) ≤ (N : Int)) = true := decide_eq_true (by omega)
      have w1 : IntKind.i64.wrap (I - 1) = I - 1 := IntWalk.i64_in _ (by omega)
      have a1 := and15 N (by omega)
      have HL := Lib.hid (low_at ⟨N % 16, Nat.mod_lt _ (by omega)⟩)
      have hlo : 0 ≤ I - 1 := by omega
      have hhi : I - 1 < 65 := by omega
      have hto : I.toNat - 1 = 64 - j := by omega
      obtain ⟨c0, hcl⟩ : ∃ c0, wr.cell? ⟨w.heap.size, I.toNat - 1, none⟩ = some c0 := by
        refine ⟨A[I.toNat - 1]'(by omega), ?_⟩
        simp only [World.cell?, hg]
        simp [show I.toNat - 1 < A.size by omega]
      have hfz : wr.frozen? ⟨w.heap.size, I.toNat - 1, none⟩ = false := by
        simp [World.frozen?, hg]
      have HT2 := Lib.hid hto
      have HAt := Lib.hid hAt
      have HN2 := Lib.hid hNe
      clear hto hNe
      have HI := Lib.hid hI
      clear HA hAt hI
      go_wp2
      go_roundw
      case rel =>
        have hto := HT2.out
        refine ⟨j + 1, A.setIfInBounds (64 - j) (.int .u8 (lowL (N % 16)).toNat), by omega, ?_, ?_, Lib.hid ⟨by rw [Array.size_setIfInBounds]; exact hA, ?_⟩, ?_, ?_⟩
        · rw [Nat.pow_succ, ← Nat.div_div_eq_div_mul, HN2.out]; simp
        · rw [HI.out]; congr 1; omega
        · intro t ht
          by_cases e : t = j
          · subst e
            rw [Array.getElem?_setIfInBounds, if_pos rfl, if_pos (by omega), HN2.out]
          · rw [Array.getElem?_setIfInBounds, if_neg (by omega)]
            exact HAt.out t (by omega)
        · rw [hto]
          have := heap_setCell_same wr w.heap.size (64 - j) A 111 (.int .u8 (lowL (N % 16)).toNat) hg
          rw [← HL.out] at this ⊢
          exact this
        · exact hB.setCell (by simp) _
      case measure => simp [intOf]; omega
    · have hjk : j = k := by omega
      subst hjk
      have hle : n / 16 ^ j < 16 := by
        rw [Nat.div_lt_iff_lt_mul (Nat.pow_pos (by omega)), ← Nat.pow_succ']
        exact hk2
      generalize hNe : n / 16 ^ j = N at *
      obtain ⟨I, hI⟩ : ∃ I : Int, I = 65 - (j : Int) := ⟨_, rfl⟩
      rw [← hI]
      have hN : decide ((16 : Int) ≤ (N : Int)) = false := decide_eq_false (by omega)
      have w1 : IntKind.i64.wrap (I - 1) = I - 1 := IntWalk.i64_in _ (by omega)
      have hlo : 0 ≤ I - 1 := by omega
      have hhi : I - 1 < 65 := by omega
      have hn16 : (N : Int) < 36 := by omega
      have hto : I.toNat - 1 = 64 - j := by omega
      obtain ⟨c0, hcl⟩ : ∃ c0, wr.cell? ⟨w.heap.size, I.toNat - 1, none⟩ = some c0 := by
        refine ⟨A[I.toNat - 1]'(by omega), ?_⟩
        simp only [World.cell?, hg]
        simp [show I.toNat - 1 < A.size by omega]
      have hfz : wr.frozen? ⟨w.heap.size, I.toNat - 1, none⟩ = false := by
        simp [World.frozen?, hg]
      have HT2 := Lib.hid hto
      have HAt := Lib.hid hAt
      have HN2 := Lib.hid hNe
      have hlit : ({ data := #[48, 49, 50, 51, 52, 53, 54, 55, 56, 57, 97, 98, 99, 100, 101, 102, 103, 104, 105, 106, 107, 108, 109, 110, 111, 112, 113, 114, 115, 116, 117, 118, 119, 120, 121, 122] } : ByteArray)[N]'(Nat.lt_of_lt_of_le hle (by decide)) = lowL N := low_at ⟨N, hle⟩
      have qs := slice_c w.heap.size I (by omega) (by omega)
      have qc := conv_digits (wr.setCell ⟨w.heap.size, I.toNat - 1, none⟩ (.int .u8 (lowL N).toNat)) w.heap.size n j (by omega) (fun t ht => by
        have hs := heap_setCell_same wr w.heap.size (64 - j) A 111 (.int .u8 (lowL N).toNat) hg
        rw [HT2.out, show (wr.setCell ⟨w.heap.size, 64 - j, none⟩ (.int .u8 (lowL N).toNat)).cell? ⟨w.heap.size, 64 - t, none⟩ = (A.setIfInBounds (64 - j) (.int .u8 (lowL N).toNat))[64 - t]? from by simp [World.cell?, hs]]
        by_cases e : t = j
        · subst e
          rw [Array.getElem?_setIfInBounds, if_pos rfl, if_pos (by omega), ← HN2.out, Nat.mod_eq_of_lt (by rw [HN2.out]; exact hle)]
        · rw [Array.getElem?_setIfInBounds, if_neg (by omega)]
          exact HAt.out t (by omega))
      have hl1 : 65 - (I.toNat - 1) = j + 1 := by omega
      rw [← HT2.out] at qc
      rw [hl1] at qs
      have HI := Lib.hid hI
      clear HA hAt hI hto hNe hl1
      go_wp2
      refine bodyPost_ret (v := .tuple #[.slice none 0 0, .string (txB (lowsL n (j + 1)))]) (by simp [results, Tryd.results57, go_sem]) rfl ⟨rfl, hB.setCell (by simp) _⟩
theorem fmti_c (n : Nat) (w : World) (hT : w.cell? ⟨5, 15, none⟩ = some (.int .u8 4)) (hn : n < 1048576) (k : Nat) (hk : k = 0 ∨ 16 ^ k ≤ n) (hk2 : n < 16 ^ (k + 1)) : Calls Tryd.prog 43 #[.int .i64 n, .int .i64 16] w fun e w' => e = .returned (.string (txB (lowsL n (k + 1)))) ∧ Below w.heap.size w w' := by
  have HB := Lib.hid (bits_c n w hT hn k hk hk2)
  have h0 : decide ((n : Int) < 0) = false := decide_eq_false (by omega)
  have h1 : IntKind.u64.wrap (n : Int) = n := by rw [IntKind.wrap_u64]; omega
  generalize txB (lowsL n (k + 1)) = S at *
  clear hk hk2
  go_enter Tryd.func43, Tryd.ntmps43
  go_wp2_with fail
  ((with_reducible refine (HB.out).mono ?_); rintro _ u ⟨rfl, hb⟩)
  have hz := hb.size
  (try simp only [World.size_alloc, World.size_setCell, World.size_drew] at hz)
  have hB' : Below w.heap.size w u := by
      refine kb ?_ hb
      go_grown
  clear hb hz
  have hB := hB'; clear hB'
  have hsz := hB.size
  go_wp2
  go_ret
  exact ⟨rfl, by go_grown⟩
theorem fmt_c (n : Nat) (w : World) (hT : w.cell? ⟨5, 15, none⟩ = some (.int .u8 4)) (hn : n < 1048576) (k : Nat) (hk : k = 0 ∨ 16 ^ k ≤ n) (hk2 : n < 16 ^ (k + 1)) : Calls Tryd.prog 31 #[.int .i64 n, .int .i64 16] w fun e w' => e = .returned (.string (txB (lowsL n (k + 1)))) ∧ Below w.heap.size w w' := by
  have HB := Lib.hid (fmti_c n w hT hn k hk hk2)
  generalize txB (lowsL n (k + 1)) = S at *
  clear hk hk2
  go_enter Tryd.func31, Tryd.ntmps31
  go_wp2_with fail
  ((with_reducible refine (HB.out).mono ?_); rintro _ u ⟨rfl, hb⟩)
  have hz := hb.size
  (try simp only [World.size_alloc, World.size_setCell, World.size_drew] at hz)
  have hB' : Below w.heap.size w u := by
      refine kb ?_ hb
      go_grown
  clear hb hz
  have hB := hB'; clear hB'
  have hsz := hB.size
  go_wp2
  go_ret
  exact ⟨rfl, by go_grown⟩
end Go.Proofs.YtbnmibkmddhniaaDoor
