/- strconv.FormatInt at base 16: -/
import Derived.Test.YtjcmblbnbpikfaaGreatDoorBase
import Derived.Laws.Bits64b
import Derived.Laws.Rows
import Derived.Test.YtjcmblbnbpikfaaGreatDoorProg2
import Derived.Test.YtjcmblbnbpikfaaGreatDoorShelf
import Derived.Test.YtjcmblbnbpikfaaGreatDoorRef2
import Derived.Test.YtjcmblbnbpikfaaGreatDoorAwake6
import Derived.Shelf.Strings.BuilderK
set_option linter.unusedSimpArgs false
set_option linter.unusedVariables false
set_option maxRecDepth 100000
namespace Go.Proofs.YtjcmblbnbpikfaaGreatDoor
open Lib (hid)
open Go.RowKit Go.PlainAid

theorem tz_c (w : World) (hT : w.cell? ⟨5, 15, none⟩ = some (.int .u8 4)) : Calls Tryz.prog 121 #[.int .u64 16] w fun e w' => e = .returned (.int .i64 4) ∧ w = w' := by
 have h1 : IntKind.u64.wrap (-16) = 18446744073709551600 := by decide
 have h2 : bits BinOp.and IntKind.u64 16 18446744073709551600 = 16 := by decide +kernel
 have h3 : IntKind.u64.wrap (16 * 285870213051353865) = 4573923408821661840 := by decide
 go_enter Tryz.func121, Tryz.ntmps121
 go_wp2
 go_ret
 exact ⟨rfl, rfl⟩
theorem pow2_c (w : World) : Calls Tryz.prog 120 #[.int .i64 16] w fun e w' => e = .returned (.bool true) ∧ w = w' := by
 have b1 : bits BinOp.and IntKind.i64 16 15 = 0 := by decide +kernel
 go_enter Tryz.func120, Tryz.ntmps120
 go_wp2
 go_ret
 exact ⟨rfl, rfl⟩

def lowL (d : Nat) : UInt8 := if d < 10 then (48 + d).toUInt8 else (87 + d).toUInt8
def lowsL (n : Nat) : Nat → List UInt8
 | 0 => []
 | k + 1 => lowL (n / 16 ^ k % 16) :: lowsL n k
def digit36 : ByteArray := ⟨#[48, 49, 50, 51, 52, 53, 54, 55, 56, 57, 97, 98, 99, 100, 101, 102, 103, 104, 105, 106, 107, 108, 109, 110, 111, 112, 113, 114, 115, 116, 117, 118, 119, 120, 121, 122]⟩
theorem low_at : ∀ d : Fin 16, (digit36[d.val]'(Nat.lt_of_lt_of_le d.isLt (by decide))) = lowL d.val := by decide +kernel
theorem and15 (N : Nat) (h : N < 1048576) : bits .and .u64 (N : Int) 15 = ((N % 16 : Nat) : Int) := by
 rw [show (15 : Int) = ((15 : Nat) : Int) from rfl, bits_and_u64_nat _ _ (by omega) (by omega), show (15 : Nat) = 2 ^ 4 - 1 from rfl, Nat.and_two_pow_sub_one_eq_mod]
theorem slice_c (B : Nat) (I : Int) (h0 : 1 ≤ I) (h1 : I ≤ 65) (W : World) : (Instr.sliceAt 181 (.pointer (some ⟨B, 0, none⟩)) (some (.int .i64 (I - 1))) none none).run Tryz.prog W = .ok (.slice (some ⟨B, I.toNat - 1, none⟩) (65 - (I.toNat - 1)) (65 - (I.toNat - 1))) W := by
 have e1 : Tryz.prog.arrayLen 181 = 65 := by kernel_rfl
 have e2 : (sizeOf (Tryz.prog.elem 181)).run Tryz.prog W = .ok 1 W := by kernel_rfl
 rw [run_sliceAt_array_l W 181 ⟨B, 0, none⟩ (by kernel_rfl) .i64 (I - 1) (by omega) (by rw [e1]; omega), e2, e1]
 show Result.ok (slicedAt ⟨B, 0, none⟩ (I - 1).toNat 65 65 1) W = _
 unfold slicedAt
 have e3 : (I - 1).toNat = I.toNat - 1 := by omega
 rw [if_neg (by omega), e3, Addr.add_lit]
 simp
theorem lows_len (n : Nat) : ∀ k, (lowsL n k).length = k
 | 0 => rfl
 | k + 1 => by show (lowsL n k).length + 1 = k + 1; rw [lows_len n k]
theorem lows_at (n : Nat) : ∀ (k j : Nat), j < k → (lowsL n k)[j]? = some (lowL (n / 16 ^ (k - 1 - j) % 16))
 | k + 1, 0, _ => by show some _ = _; simp
 | k + 1, j + 1, h => by
  show (lowsL n k)[j]? = _
  rw [lows_at n k j (by omega), show k - 1 - j = k + 1 - 1 - (j + 1) by omega]
theorem conv_digits (W : World) (B n j : Nat) (hj : j < 5) (h : ∀ t, t < j + 1 → W.cell? ⟨B, 64 - t, none⟩ = some (.int .u8 (lowL (n / 16 ^ t % 16)).toNat)) :
  (convert 98 9 (.slice (some ⟨B, 64 - j, none⟩) (j + 1) (j + 1))).run Tryz.prog W = .ok (.string (txB (lowsL n (j + 1)))) W := by
 have hc := run_convert_bytes_back (P := Tryz.prog) W 98 9 5 ⟨B, 64 - j, none⟩ (j + 1) (lowsL n (j + 1)) Tryz.underlying98 Tryz.underlying5 Tryz.underlying9 (fun i hi => by
  rw [lows_len] at hi
  have e := lows_at n (j + 1) i hi
  rw [List.getElem?_eq_getElem (by rw [lows_len]; exact hi)] at e
  rw [Option.some.inj e, Addr.add_lit, show 64 - j + i = 64 - (j - i) by omega, h (j - i) (by omega), show j + 1 - 1 - i = j - i by omega])
 rw [lows_len] at hc
 exact hc
set_option maxHeartbeats 1000000 in
theorem bits_c (n : Nat) (w : World) (hT : w.cell? ⟨5, 15, none⟩ = some (.int .u8 4)) (hn : n < 1048576) (k : Nat) (hk : k = 0 ∨ 16 ^ k ≤ n) (hk2 : n < 16 ^ (k + 1)) : Calls Tryz.prog 106 #[.slice none 0 0, .int .u64 n, .int .i64 16, .bool false, .bool false] w fun e w' => e = .returned (.tuple #[.slice none 0 0, .string (txB (lowsL n (k + 1)))]) ∧ Below w.heap.size w w' := by
 have HT := hid (fun o => tz_c (w.alloc o) (kc ((Below.refl _ w).alloc (Nat.le_refl _) o) hT))
 go_enter Tryz.func106, Tryz.ntmps106
 go_wp2_with (first | (go_at_call 121; (with_reducible refine (HT.out _).mono ?_); rintro _ _ ⟨rfl, rfl⟩) | (go_at_call 120; (with_reducible refine (pow2_c _).mono ?_); rintro _ _ ⟨rfl, rfl⟩))
 go_loopw [1, 13] (fun u i wr => ∃ (j : Nat) (A : Array Value), j ≤ k ∧ u = .int .u64 ((n / 16 ^ j : Nat) : Int) ∧ i = .int .i64 (65 - (j : Int)) ∧ Hid (A.size = 65 ∧ ∀ t, t < j → A[64 - t]? = some (.int .u8 (lowL (n / 16 ^ t % 16)).toNat)) ∧ wr.heap[w.heap.size]? = some (.cells A 181 (0, 0)) ∧ Below w.heap.size w wr) (fun u i _ => (intOf i).toNat)
 case atStart =>
  refine ⟨0, Tryz.zeroCells181, by omega, by simp, rfl, hid ⟨by kernel_rfl, fun t h => by omega⟩, ?_, by go_grown⟩
  exact heap_alloc_new w _
 case round =>
  obtain ⟨j, A, hj, rfl, rfl, HA, hg, hB⟩ := hrel
  have hNn : n / 16 ^ j ≤ n := Nat.div_le_self _ _
  obtain ⟨hA, hAt⟩ := HA.out
  have hj4 : k < 5 := by
   refine Nat.lt_of_not_le fun h => ?_
   have : 16 ^ 5 ≤ 16 ^ k := Nat.pow_le_pow_right (by omega) h
   rcases hk with hk | hk <;> omega
  by_cases hlt : j < k
  ·have hge : 16 ≤ n / 16 ^ j := by
    rw [Nat.le_div_iff_mul_le (Nat.pow_pos (by omega))]
    refine Nat.le_trans ?_ (hk.resolve_left (by omega))
    rw [← Nat.pow_succ']
    exact Nat.pow_le_pow_right (by omega) (by omega)
   generalize hNe : n / 16 ^ j = N at *
   obtain ⟨I, hI⟩ : ∃ I : Int, I = 65 - (j : Int) := ⟨_, rfl⟩
   rw [← hI]
   have hN : decide ((16 : Int) ≤ (N : Int)) = true := decide_eq_true (by omega)
   have w1 : IntKind.i64.wrap (I - 1) = I - 1 := IntWalk.i64_in _ (by omega)
   have a1 := and15 N (by omega)
   have HL := hid (low_at ⟨N % 16, Nat.mod_lt _ (by omega)⟩)
   have hlo : 0 ≤ I - 1 := by omega
   have hhi : I - 1 < 65 := by omega
   have hto : I.toNat - 1 = 64 - j := by omega
   obtain ⟨c0, hcl⟩ : ∃ c0, wr.cell? ⟨w.heap.size, I.toNat - 1, none⟩ = some c0 := by
    refine ⟨A[I.toNat - 1]'(by omega), ?_⟩
    simp only [World.cell?, hg]
    simp [show I.toNat - 1 < A.size by omega]
   have hfz : wr.frozen? ⟨w.heap.size, I.toNat - 1, none⟩ = false := by
    simp [World.frozen?, hg]
   have HT2 := hid hto
   have HAt := hid hAt
   have HN2 := hid hNe
   clear hto hNe
   have HI := hid hI
   clear HA hAt hI
   go_wp2
   go_roundw
   case rel =>
    have hto := HT2.out
    refine ⟨j + 1, A.setIfInBounds (64 - j) (.int .u8 (lowL (N % 16)).toNat), by omega, ?_, ?_, hid ⟨by rw [Array.size_setIfInBounds]; exact hA, ?_⟩, ?_, ?_⟩
    ·rw [Nat.pow_succ, ← Nat.div_div_eq_div_mul, HN2.out]; simp
    ·rw [HI.out]; congr 1; omega
    ·intro t ht
     by_cases e : t = j
     ·subst e
      rw [Array.getElem?_setIfInBounds, if_pos rfl, if_pos (by omega), HN2.out]
     ·rw [Array.getElem?_setIfInBounds, if_neg (by omega)]
      exact HAt.out t (by omega)
    ·rw [hto]
     have := heap_setCell_same wr w.heap.size (64 - j) A 181 (.int .u8 (lowL (N % 16)).toNat) hg
     rw [← HL.out] at this ⊢
     exact this
    ·exact hB.setCell (by simp) _
   case measure => simp [intOf]; omega
  ·have hjk : j = k := by omega
   subst hjk
   have hle : n / 16 ^ j < 16 := by
    rw [Nat.div_lt_iff_lt_mul (Nat.pow_pos (by omega)), ← Nat.pow_succ']
    exact hk2
   generalize hNe : n / 16 ^ j = N at *
   obtain ⟨I, hI⟩ : ∃ I : Int, I = 65 - (j : Int) := ⟨_, rfl⟩
   rw [← hI]
   have hN : decide ((16 : Int) ≤ (N : Int)) = false := decide_eq_false (by omega)
   have w1 : IntKind.i64.wrap (I - 1) = I - 1 := IntWalk.i64_in _ (by omega)
   have hlo : 0 ≤ I - 1 := by omega
   have hhi : I - 1 < 65 := by omega
   have hn16 : (N : Int) < 36 := by omega
   have hto : I.toNat - 1 = 64 - j := by omega
   obtain ⟨c0, hcl⟩ : ∃ c0, wr.cell? ⟨w.heap.size, I.toNat - 1, none⟩ = some c0 := by
    refine ⟨A[I.toNat - 1]'(by omega), ?_⟩
    simp only [World.cell?, hg]
    simp [show I.toNat - 1 < A.size by omega]
   have hfz : wr.frozen? ⟨w.heap.size, I.toNat - 1, none⟩ = false := by
    simp [World.frozen?, hg]
   have HT2 := hid hto
   have HAt := hid hAt
   have HN2 := hid hNe
   have hlit : ({ data := #[48, 49, 50, 51, 52, 53, 54, 55, 56, 57, 97, 98, 99, 100, 101, 102, 103, 104, 105, 106, 107, 108, 109, 110, 111, 112, 113, 114, 115, 116, 117, 118, 119, 120, 121, 122] } : ByteArray)[N]'(Nat.lt_of_lt_of_le hle (by decide)) = lowL N := low_at ⟨N, hle⟩
   have qs := slice_c w.heap.size I (by omega) (by omega)
   have qc := conv_digits (wr.setCell ⟨w.heap.size, I.toNat - 1, none⟩ (.int .u8 (lowL N).toNat)) w.heap.size n j (by omega) (fun t ht => by
    have hs := heap_setCell_same wr w.heap.size (64 - j) A 181 (.int .u8 (lowL N).toNat) hg
    rw [HT2.out, show (wr.setCell ⟨w.heap.size, 64 - j, none⟩ (.int .u8 (lowL N).toNat)).cell? ⟨w.heap.size, 64 - t, none⟩ = (A.setIfInBounds (64 - j) (.int .u8 (lowL N).toNat))[64 - t]? from by simp [World.cell?, hs]]
    by_cases e : t = j
    ·subst e
     rw [Array.getElem?_setIfInBounds, if_pos rfl, if_pos (by omega), ← HN2.out, Nat.mod_eq_of_lt (by rw [HN2.out]; exact hle)]
    ·rw [Array.getElem?_setIfInBounds, if_neg (by omega)]
     exact HAt.out t (by omega))
   have hl1 : 65 - (I.toNat - 1) = j + 1 := by omega
   rw [← HT2.out] at qc
   rw [hl1] at qs
   have HI := hid hI
   clear HA hAt hI hto hNe hl1
   go_wp2
   refine bodyPost_ret (v := .tuple #[.slice none 0 0, .string (txB (lowsL n (j + 1)))]) (by simp [results, Tryz.results106, go_sem]) rfl ⟨rfl, hB.setCell (by simp) _⟩
theorem fmti_c (n : Nat) (w : World) (hT : w.cell? ⟨5, 15, none⟩ = some (.int .u8 4)) (hn : n < 1048576) (k : Nat) (hk : k = 0 ∨ 16 ^ k ≤ n) (hk2 : n < 16 ^ (k + 1)) : Calls Tryz.prog 92 #[.int .i64 n, .int .i64 16] w fun e w' => e = .returned (.string (txB (lowsL n (k + 1)))) ∧ Below w.heap.size w w' := by
 have HB := hid (bits_c n w hT hn k hk hk2)
 have h0 : decide ((n : Int) < 0) = false := decide_eq_false (by omega)
 have h1 : IntKind.u64.wrap (n : Int) = n := by rw [IntKind.wrap_u64]; omega
 generalize txB (lowsL n (k + 1)) = S at *
 clear hk hk2
 go_enter Tryz.func92, Tryz.ntmps92
 go_wp2_with fail
 ((with_reducible refine (HB.out).mono ?_); rintro _ u ⟨rfl, hb⟩)
 have hz := hb.size
 (try simp only [szA] at hz)
 have hB' : Below w.heap.size w u := by
   refine kb ?_ hb
   go_grown
 clear hb hz
 have hB := hB'; clear hB'
 have hsz := hB.size
 go_wp2
 go_ret
 exact ⟨rfl, by go_grown⟩
theorem fmt_c (n : Nat) (w : World) (hT : w.cell? ⟨5, 15, none⟩ = some (.int .u8 4)) (hn : n < 1048576) (k : Nat) (hk : k = 0 ∨ 16 ^ k ≤ n) (hk2 : n < 16 ^ (k + 1)) : Calls Tryz.prog 78 #[.int .i64 n, .int .i64 16] w fun e w' => e = .returned (.string (txB (lowsL n (k + 1)))) ∧ Below w.heap.size w w' := by
 have HB := hid (fmti_c n w hT hn k hk hk2)
 generalize txB (lowsL n (k + 1)) = S at *
 clear hk hk2
 go_enter Tryz.func78, Tryz.ntmps78
 go_wp2_with fail
 ((with_reducible refine (HB.out).mono ?_); rintro _ u ⟨rfl, hb⟩)
 have hz := hb.size
 (try simp only [szA] at hz)
 have hB' : Below w.heap.size w u := by
   refine kb ?_ hb
   go_grown
 clear hb hz
 have hB := hB'; clear hB'
 have hsz := hB.size
 go_wp2
 go_ret
 exact ⟨rfl, by go_grown⟩
def wordB (t : List UInt8) : Bool := !t.isEmpty && t.all isLet
def widthN (n : Int) : Nat := if 255 < n then 4 else 2
def textE (k : Int) (t : List UInt8) (n : Int) : Int := if k = 1 then (if wordB t then 0 else 11) else if k = 2 then (if n < 0 ∨ 65535 < n then 10 else 0) else if k = 3 ∨ k = 4 then 0 else 15
def textL (k : Int) (t : List UInt8) (n : Int) : List UInt8 := if k = 1 then (if wordB t then t else []) else if k = 2 then (if n < 0 ∨ 65535 < n then [] else 36 :: lowsL n.toNat (widthN n)) else if k = 3 then [46, 46] else if k = 4 then [10] else []
theorem textL_len (k : Int) (t : List UInt8) (n : Int) (ht : t.length ≤ 100) : (textL k t n).length ≤ 100 := by
 unfold textL
 split
 ·split
  ·exact ht
  ·simp
 ·split
  ·split
   ·simp
   ·rw [List.length_cons, lows_len]; unfold widthN; split <;> omega
  ·split
   ·simp
   ·split <;> simp
theorem lows_pad (n k : Nat) (h : n < 16 ^ k) : lowsL n (k + 1) = 48 :: lowsL n k := by
 show lowL (n / 16 ^ k % 16) :: lowsL n k = _
 rw [Nat.div_eq_of_lt h]
 rfl
theorem lows_pads (n k : Nat) (h : n < 16 ^ k) : ∀ c, lowsL n (k + c) = List.replicate c 48 ++ lowsL n k
 | 0 => rfl
 | c + 1 => by
  rw [← Nat.add_assoc, lows_pad n (k + c) (Nat.lt_of_lt_of_le h (Nat.pow_le_pow_right (by omega) (by omega))), lows_pads n k h c, List.replicate_succ]
  rfl
theorem repeat_is : ∀ c, Lib.repeatL [48] c = List.replicate c 48 := by
 intro c
 induction c with
 | zero => rfl
 | succ c ih =>
  rw [List.replicate_succ, ← ih]
  rfl
theorem repeat_c (c : Nat) (hc : c ≤ 10) (w : World) : Calls Tryz.prog 79 #[.string ⟨#[48]⟩, .int .i64 (c : Int)] w fun e w' => e = .returned (.string (txB (List.replicate c 48))) ∧ Below w.heap.size w w' := by
 have h := Tryz.strings_Repeat ⟨#[48]⟩ c w (by omega) (by show 1 * c ≤ _; omega)
 rw [show (ByteArray.mk #[48]).data.toList = [48] from rfl, repeat_is] at h
 exact h
set_option maxHeartbeats 1000000 in
theorem printd_c (n d : Nat) (hd : 1 ≤ d ∧ d ≤ widthN n) (h1 : d = 1 ∨ 16 ^ (d - 1) ≤ n) (h2 : n < 16 ^ d) (hn : n ≤ 65535) (w : World) (hT : w.cell? ⟨5, 15, none⟩ = some (.int .u8 4)) :
  Calls Tryz.prog 62 #[.int .i64 (n : Int)] w fun e w' => e = .returned (.string (txB (36 :: lowsL n (widthN n)))) ∧ Below w.heap.size w w' := by
 have HF := hid (fmt_c n w hT (by omega) (d - 1) (by rcases h1 with h | h; exact .inl (by omega); exact .inr h) (by rw [Nat.sub_add_cancel hd.1]; exact h2))
 rw [Nat.sub_add_cancel hd.1] at HF
 have hw4 : widthN n ≤ 4 := by unfold widthN; split <;> omega
 have HRp := hid (repeat_c (widthN n - d) (by omega))
 have hz : (txB (lowsL n d)).size = d := by rw [txB_size, lows_len]
 have hpads := lows_pads n d h2 (widthN n - d)
 rw [show d + (widthN n - d) = widthN n from by omega] at hpads
 obtain ⟨O, hO⟩ : ∃ O, txB (36 :: lowsL n (widthN n)) = O := ⟨_, rfl⟩
 rw [hO]
 obtain ⟨A, hA⟩ : ∃ A, txB (List.replicate (widthN n - d) 48) = A := ⟨_, rfl⟩
 rw [hA] at HRp
 obtain ⟨B, hB⟩ : ∃ B, txB (lowsL n d) = B := ⟨_, rfl⟩
 rw [hB] at HF hz
 have HO := hid (show ({ data := #[36] } : ByteArray) ++ A ++ B = O from by
  rw [← hO, ← hA, ← hB, hpads]
  show txB [36] ++ txB _ ++ txB _ = _
  rw [txB_append, txB_append]
  rfl)
 have hAz : A.size ≤ 10 := by rw [← hA, txB_size, List.length_replicate]; omega
 have hBz : B.size ≤ 10 := by omega
 have hcw : ((widthN n - d : Nat) : Int) = ((widthN n : Nat) : Int) - (B.size : Int) := by omega
 rw [hcw] at HRp
 clear hO hA hB hpads hz h1 h2 hd hT hcw
 by_cases hbig : 255 < (n : Int)
 ·have hdd : decide (255 < (n : Int)) = true := decide_eq_true hbig
  have e4 : widthN n = 4 := by unfold widthN; rw [if_pos hbig]
  rw [e4, show ((4 : Nat) : Int) = 4 from rfl] at HRp
  generalize (n : Int) = N at *
  clear hbig hn hw4 e4
  go_enter Tryz.func62, Tryz.ntmps62
  go_wp2_with fail
  ((with_reducible refine (HF.out).mono ?_); rintro _ u ⟨rfl, hb⟩)
  have hz := hb.size
  (try simp only [szA] at hz)
  have hB' : Below w.heap.size w u := by
    refine kb ?_ hb
    go_grown
  clear hb hz
  have hB := hB'; clear hB'
  have hsz := hB.size
  go_wp2_with fail
  ((with_reducible refine (HRp.out _).mono ?_); rintro _ u2 ⟨rfl, hb⟩)
  have hz := hb.size
  (try simp only [szA] at hz)
  have hB' : Below w.heap.size w u2 := by
    refine kb ?_ hb
    go_grown
  clear hB hsz
  clear hb hz
  have hB := hB'; clear hB'
  have hsz := hB.size
  go_wp2
  go_ret
  exact ⟨by show Ending.returned (.string _) = _; rw [HO.out], by go_grown⟩
 ·have hdd : decide (255 < (n : Int)) = false := decide_eq_false hbig
  have e4 : widthN n = 2 := by unfold widthN; rw [if_neg hbig]
  rw [e4, show ((2 : Nat) : Int) = 2 from rfl] at HRp
  generalize (n : Int) = N at *
  clear hbig hn hw4 e4
  go_enter Tryz.func62, Tryz.ntmps62
  go_wp2_with fail
  ((with_reducible refine (HF.out).mono ?_); rintro _ u3 ⟨rfl, hb⟩)
  have hz := hb.size
  (try simp only [szA] at hz)
  have hB' : Below w.heap.size w u3 := by
    refine kb ?_ hb
    go_grown
  clear hb hz
  have hB := hB'; clear hB'
  have hsz := hB.size
  go_wp2_with fail
  ((with_reducible refine (HRp.out _).mono ?_); rintro _ u4 ⟨rfl, hb⟩)
  have hz := hb.size
  (try simp only [szA] at hz)
  have hB' : Below w.heap.size w u4 := by
    refine kb ?_ hb
    go_grown
  clear hB hsz
  clear hb hz
  have hB := hB'; clear hB'
  have hsz := hB.size
  go_wp2
  go_ret
  exact ⟨by show Ending.returned (.string _) = _; rw [HO.out], by go_grown⟩
theorem printn_c (n : Nat) (hn : n ≤ 65535) (w : World) (hT : w.cell? ⟨5, 15, none⟩ = some (.int .u8 4)) :
  Calls Tryz.prog 62 #[.int .i64 (n : Int)] w fun e w' => e = .returned (.string (txB (36 :: lowsL n (widthN n)))) ∧ Below w.heap.size w w' := by
 by_cases h1 : n < 16
 ·exact printd_c n 1 (by unfold widthN; split <;> omega) (.inl rfl) (by omega) hn w hT
 ·by_cases h2 : n < 256
  ·exact printd_c n 2 (by unfold widthN; split <;> omega) (.inr (by simp; omega)) (by omega) hn w hT
  ·by_cases h3 : n < 4096
   ·exact printd_c n 3 (by unfold widthN; split <;> omega) (.inr (by simp; omega)) (by omega) hn w hT
   ·exact printd_c n 4 (by unfold widthN; split <;> omega) (.inr (by simp; omega)) (by omega) hn w hT
set_option maxHeartbeats 1000000 in
theorem isWord_c (t : List UInt8) (ht : t.length ≤ 100) (w : World) : Calls Tryz.prog 61 #[.string (txB t)] w fun e w' => e = .returned (.bool (wordB t)) ∧ Below w.heap.size w w' := by
 obtain ⟨R, hR⟩ : ∃ R, wordB t = R := ⟨_, rfl⟩
 rw [hR]
 have HR := hid hR
 have HL := hid ht
 have HZ := hid (txB_size t)
 have htl := txB_toList t
 clear hR ht
 generalize hS : txB t = S at *
 have HS := hid hS
 have HTl := hid htl
 clear hS htl
 go_enter Tryz.func61, Tryz.ntmps61
 go_wp2
 go_loopw [6] (fun i wr => ∃ (k : Nat) (K : Int), i = .int .i64 K ∧ Hid (K = k ∧ k ≤ t.length ∧ (t.take k).all isLet = true) ∧ Below w.heap.size w wr) (fun i _ => t.length - (intOf i).toNat)
 case atStart => exact ⟨0, 0, rfl, hid ⟨rfl, by omega, rfl⟩, Below.refl _ _⟩
 case round =>
  obtain ⟨k, K, rfl, HQ, hB⟩ := hrel
  obtain ⟨q1, q2, q3⟩ := HQ.out
  have hz := HZ.out
  have hl := HL.out
  by_cases hlt : k < t.length
  ·have hd : decide (K < (S.size : Int)) = true := decide_eq_true (by omega)
   have q := fun W => by have := ix_l t k hlt K q1 W; rw [HS.out] at this; exact this
   have w3 : IntKind.i64.wrap (K + 1) = K + 1 := IntWalk.i64_in _ (by omega)
   have HI := hid (fun W => in_letters_c (at8 t k) W)
   have hall : t.all isLet = true → isLet (at8 t k) = true := fun h => List.all_eq_true.1 h _ (by rw [at8_get t k hlt]; exact List.getElem_mem hlt)
   have hB0 := hB
   have hnr := hB.size
   have hbr : Below wr.heap.size wr wr := Below.refl _ _
   cases e : isLet (at8 t k)
   ·have HF := hid (show R = false from by
     rw [← HR.out]
     unfold wordB
     cases h : t.all isLet
     ·simp
     ·rw [hall h] at e; cases e)
    rw [e] at HI
    generalize bI (at8 t k) = c at *
    clear q1 q2 q3 hz hl hlt HQ hall e hB
    go_wp2_with fail
    ((with_reducible refine (HI.out _).mono ?_); rintro _ u5 ⟨rfl, hb⟩)
    have hz := hb.size
    (try simp only [szA] at hz)
    have hB' : Below wr.heap.size wr u5 := by
      refine kb ?_ hb
      go_grown
    clear hb hz
    have hB := hB'; clear hB'
    have hsz := hB.size
    go_wp2
    go_ret
    exact ⟨ret_bool HF.out.symm, hB0.trans (Below.mono hB hnr)⟩
   ·have HN := hid (show K + 1 = ((k + 1 : Nat) : Int) ∧ k + 1 ≤ t.length ∧ (t.take (k + 1)).all isLet = true ∧ K = k ∧ k < t.length from ⟨by omega, by omega, by
     rw [List.take_succ_eq_append_getElem hlt, List.all_append, q3, ← at8_get t k hlt]
     simp [e], q1, hlt⟩)
    rw [e] at HI
    generalize bI (at8 t k) = c at *
    clear q1 q2 q3 hz hl hlt HQ hall e hB
    go_wp2_with fail
    ((with_reducible refine (HI.out _).mono ?_); rintro _ u6 ⟨rfl, hb⟩)
    have hz := hb.size
    (try simp only [szA] at hz)
    have hB' : Below wr.heap.size wr u6 := by
      refine kb ?_ hb
      go_grown
    clear hb hz
    have hB := hB'; clear hB'
    have hsz := hB.size
    go_wp2
    go_roundw
    case rel => exact ⟨k + 1, K + 1, rfl, hid ⟨HN.out.1, HN.out.2.1, HN.out.2.2.1⟩, hB0.trans (Below.mono hB hnr)⟩
    case measure => have := HN.out.2.2.2; simp only [intOf]; omega
  ·have hd : decide (K < (S.size : Int)) = false := decide_eq_false (by omega)
   have hall : t.all isLet = true := by rw [List.take_of_length_le (by omega)] at q3; exact q3
   have HF := hid (show R = !t.isEmpty from by
    rw [← HR.out]
    unfold wordB
    rw [hall, Bool.and_true])
   clear q1 q2 q3 hz hl hlt HQ hall
   cases ht : t with
   | nil =>
    have h1 : S.toList = [] := by rw [HTl.out, ht]
    rw [ht] at HF
    go_wp2
    go_ret
    exact ⟨by rw [HF.out]; rfl, hB⟩
   | cons x r =>
    have h1 : (S.toList == []) = false := by rw [HTl.out, ht]; rfl
    have h2 : S.toList.isEmpty = false := by rw [HTl.out, ht]; rfl
    rw [ht] at HF
    go_wp2
    go_ret
    exact ⟨by rw [HF.out]; rfl, hB⟩
theorem text_ways (k : Int) (t : List UInt8) (n : Int) : (k = 1 ∧ wordB t = true ∧ textE k t n = 0 ∧ textL k t n = t) ∨ (k = 1 ∧ wordB t = false ∧ textE k t n = 11 ∧ textL k t n = []) ∨
  (k = 2 ∧ n < 0 ∧ textE k t n = 10 ∧ textL k t n = []) ∨ (k = 2 ∧ ¬ n < 0 ∧ 65535 < n ∧ textE k t n = 10 ∧ textL k t n = []) ∨ (k = 2 ∧ 0 ≤ n ∧ n ≤ 65535 ∧ textE k t n = 0 ∧ textL k t n = 36 :: lowsL n.toNat (widthN n)) ∨
  (k = 3 ∧ textE k t n = 0 ∧ textL k t n = [46, 46]) ∨ (k = 4 ∧ textE k t n = 0 ∧ textL k t n = [10]) ∨ (k ≠ 1 ∧ k ≠ 2 ∧ k ≠ 3 ∧ k ≠ 4 ∧ textE k t n = 15 ∧ textL k t n = []) := by
 unfold textE textL
 by_cases k1 : k = 1
 ·rw [if_pos k1, if_pos k1]
  cases h : wordB t
  ·right; left; exact ⟨k1, rfl, rfl, rfl⟩
  ·left; exact ⟨k1, rfl, rfl, rfl⟩
 ·rw [if_neg k1, if_neg k1]
  by_cases k2 : k = 2
  ·rw [if_pos k2, if_pos k2]
   by_cases h0 : n < 0
   ·rw [if_pos (.inl h0), if_pos (.inl h0)]
    right; right; left; exact ⟨k2, h0, rfl, rfl⟩
   ·by_cases h1 : 65535 < n
    ·rw [if_pos (.inr h1), if_pos (.inr h1)]
     right; right; right; left; exact ⟨k2, h0, h1, rfl, rfl⟩
    ·rw [if_neg (by omega), if_neg (by omega)]
     right; right; right; right; left; exact ⟨k2, by omega, by omega, rfl, rfl⟩
  ·rw [if_neg k2, if_neg k2]
   by_cases k3 : k = 3
   ·rw [if_pos (.inl k3), if_pos k3]
    right; right; right; right; right; left; exact ⟨k3, rfl, rfl⟩
   ·by_cases k4 : k = 4
    ·rw [if_pos (.inr k4), if_neg k3, if_pos k4]
     right; right; right; right; right; right; left; exact ⟨k4, rfl, rfl⟩
    ·rw [if_neg (by omega), if_neg k3, if_neg k4]
     right; right; right; right; right; right; right; exact ⟨k1, k2, k3, k4, rfl, rfl⟩
set_option maxHeartbeats 2000000 in
theorem textp_c (k : Int) (t : List UInt8) (n li co : Int) (ht : t.length ≤ 100) (w : World) (hT : w.cell? ⟨5, 15, none⟩ = some (.int .u8 4)) :
  Calls Tryz.prog 42 #[.agg #[.int .i64 k, .string (txB t), .int .i64 n, .int .i64 li, .int .i64 co]] w fun e w' => e = .returned (.tuple #[.string (txB (textL k t n)), .int .i64 (textE k t n)]) ∧ Below w.heap.size w w' := by
 have HW := hid (isWord_c t ht)
 rcases text_ways k t n with ⟨rfl, h1, e1, e2⟩ | ⟨rfl, h1, e1, e2⟩ | ⟨rfl, h1, e1, e2⟩ | ⟨rfl, h0, h1, e1, e2⟩ | ⟨rfl, h0, h1, e1, e2⟩ | ⟨rfl, e1, e2⟩ | ⟨rfl, e1, e2⟩ | ⟨h1, h2, h3, h4, e1, e2⟩
 ·rw [e1, e2]
  rw [h1] at HW
  generalize txB t = S at *
  clear e1 e2 h1 ht
  go_enter Tryz.func42, Tryz.ntmps42
  go_wp2_with fail
  ((with_reducible refine (HW.out _).mono ?_); rintro _ u1 ⟨rfl, hb⟩)
  have T : CC u1 w.heap.size 0 1 (.int .i64 1) (.string S) ∧ CC u1 w.heap.size 2 3 (.int .i64 n) (.int .i64 li) ∧ u1.cell? ⟨w.heap.size, 4, none⟩ = some (.int .i64 co) := by
    refine ⟨⟨?_, ?_⟩, ⟨?_, ?_⟩, ?_⟩ <;> refine kc hb ?_ <;> (go_simp; first | done | rfl)
  have hz := hb.size
  (try simp only [szA] at hz)
  have L : w.heap.size < u1.heap.size := by omega
  have hB' : Below w.heap.size w u1 := by
    refine kb ?_ hb
    go_grown
  clear hb hz
  obtain ⟨⟨hx_0, hx_1⟩, ⟨hx_2, hx_3⟩, hx_4⟩ := T
  have hlx := L; clear L
  obtain ⟨hnx0, hnx1, hkx1, hnx2, hkx2⟩ := ap0 hlx
  have hB := hB'; clear hB'
  have hsz := hB.size
  go_wp2
  refine bodyPost_ret (v := .tuple #[.string S, .int .i64 0]) (by simp [results, Tryz.results42, go_sem]) rfl ⟨rfl, by go_grown⟩
 ·rw [e1, e2]
  rw [h1] at HW
  generalize txB t = S at *
  clear e1 e2 h1 ht
  go_enter Tryz.func42, Tryz.ntmps42
  go_wp2_with fail
  ((with_reducible refine (HW.out _).mono ?_); rintro _ u1 ⟨rfl, hb⟩)
  have T : CC u1 w.heap.size 0 1 (.int .i64 1) (.string S) ∧ CC u1 w.heap.size 2 3 (.int .i64 n) (.int .i64 li) ∧ u1.cell? ⟨w.heap.size, 4, none⟩ = some (.int .i64 co) := by
    refine ⟨⟨?_, ?_⟩, ⟨?_, ?_⟩, ?_⟩ <;> refine kc hb ?_ <;> (go_simp; first | done | rfl)
  have hz := hb.size
  (try simp only [szA] at hz)
  have L : w.heap.size < u1.heap.size := by omega
  have hB' : Below w.heap.size w u1 := by
    refine kb ?_ hb
    go_grown
  clear hb hz
  obtain ⟨⟨hx_0, hx_1⟩, ⟨hx_2, hx_3⟩, hx_4⟩ := T
  have hlx := L; clear L
  obtain ⟨hnx0, hnx1, hkx1, hnx2, hkx2⟩ := ap0 hlx
  have hB := hB'; clear hB'
  have hsz := hB.size
  go_wp2
  refine bodyPost_ret (v := .tuple #[.string ⟨#[]⟩, .int .i64 11]) (by simp [results, Tryz.results42, go_sem]) rfl ⟨rfl, by go_grown⟩
 ·rw [e1, e2]
  have d1 : decide (n < 0) = true := decide_eq_true h1
  generalize txB t = S at *
  clear e1 e2 h1 ht
  go_enter Tryz.func42, Tryz.ntmps42
  go_wp2
  refine bodyPost_ret (v := .tuple #[.string ⟨#[]⟩, .int .i64 10]) (by simp [results, Tryz.results42, go_sem]) rfl ⟨rfl, by go_grown⟩
 ·rw [e1, e2]
  have d1 : decide (n < 0) = false := decide_eq_false h0
  have d2 : decide (65535 < n) = true := decide_eq_true h1
  generalize txB t = S at *
  clear e1 e2 h1 h0 ht
  go_enter Tryz.func42, Tryz.ntmps42
  go_wp2
  refine bodyPost_ret (v := .tuple #[.string ⟨#[]⟩, .int .i64 10]) (by simp [results, Tryz.results42, go_sem]) rfl ⟨rfl, by go_grown⟩
 ·rw [e1, e2]
  have d1 : decide (n < 0) = false := decide_eq_false (by omega)
  have d2 : decide (65535 < n) = false := decide_eq_false (by omega)
  have HPn := hid (fun W h => printn_c n.toNat (by omega) W h)
  rw [Int.toNat_of_nonneg h0] at HPn
  generalize txB (36 :: lowsL n.toNat (widthN n)) = O at *
  generalize txB t = S at *
  clear e1 e2 h1 h0 ht
  go_enter Tryz.func42, Tryz.ntmps42
  go_wp2_with fail
  ((with_reducible refine (HPn.out _ (kc ((Below.refl _ w).alloc (Nat.le_refl _) _) hT)).mono ?_); rintro _ u1 ⟨rfl, hb⟩)
  have T : CC u1 w.heap.size 0 1 (.int .i64 2) (.string S) ∧ CC u1 w.heap.size 2 3 (.int .i64 n) (.int .i64 li) ∧ u1.cell? ⟨w.heap.size, 4, none⟩ = some (.int .i64 co) := by
    refine ⟨⟨?_, ?_⟩, ⟨?_, ?_⟩, ?_⟩ <;> refine kc hb ?_ <;> (go_simp; first | done | rfl)
  have hz := hb.size
  (try simp only [szA] at hz)
  have L : w.heap.size < u1.heap.size := by omega
  have hB' : Below w.heap.size w u1 := by
    refine kb ?_ hb
    go_grown
  clear hb hz
  obtain ⟨⟨hx_0, hx_1⟩, ⟨hx_2, hx_3⟩, hx_4⟩ := T
  have hlx := L; clear L
  obtain ⟨hnx0, hnx1, hkx1, hnx2, hkx2⟩ := ap0 hlx
  have hB := hB'; clear hB'
  have hsz := hB.size
  go_wp2
  refine bodyPost_ret (v := .tuple #[.string O, .int .i64 0]) (by simp [results, Tryz.results42, go_sem]) rfl ⟨rfl, by go_grown⟩
 ·rw [e1, e2]
  generalize txB t = S at *
  clear e1 e2 ht
  go_enter Tryz.func42, Tryz.ntmps42
  go_wp2
  refine bodyPost_ret (v := .tuple #[.string ⟨#[46, 46]⟩, .int .i64 0]) (by simp [results, Tryz.results42, go_sem]) rfl ⟨rfl, by go_grown⟩
 ·rw [e1, e2]
  generalize txB t = S at *
  clear e1 e2 ht
  go_enter Tryz.func42, Tryz.ntmps42
  go_wp2
  refine bodyPost_ret (v := .tuple #[.string ⟨#[10]⟩, .int .i64 0]) (by simp [results, Tryz.results42, go_sem]) rfl ⟨rfl, by go_grown⟩
 ·rw [e1, e2]
  have d1 : (k == 1) = false := beq_eq_false_iff_ne.2 h1
  have d2 : (k == 2) = false := beq_eq_false_iff_ne.2 h2
  have d3 : (k == 3) = false := beq_eq_false_iff_ne.2 h3
  have d4 : (k == 4) = false := beq_eq_false_iff_ne.2 h4
  generalize txB t = S at *
  clear e1 e2 h1 h2 h3 h4 ht
  go_enter Tryz.func42, Tryz.ntmps42
  go_wp2
  refine bodyPost_ret (v := .tuple #[.string ⟨#[]⟩, .int .i64 15]) (by simp [results, Tryz.results42, go_sem]) rfl ⟨rfl, by go_grown⟩
def sepL (p : Option Int) (k : Int) : List UInt8 := match p with
 | some q => if q ≠ 4 ∧ k ≠ 4 then [32] else []
 | none => []
def joinR : List Tk → Option Int → List UInt8 → List UInt8 × Int
 | [], _, acc => (acc, 0)
 | x :: r, p, acc => if textE x.k x.t x.n ≠ 0 then ([], textE x.k x.t x.n) else joinR r (some x.k) (acc ++ sepL p x.k ++ textL x.k x.t x.n)
def prevK (l : List Tk) (k : Nat) : Option Int := if k = 0 then none else (l[k - 1]?).map (·.k)
theorem prevK_next (l : List Tk) (k : Nat) (x : Tk) (h : l[k]? = some x) : prevK l (k + 1) = some x.k := by
 unfold prevK
 rw [if_neg (by omega), Nat.add_sub_cancel, h]
 rfl
def ren167 : Go.Shelf.Ren := ⟨fun | 167 => 43 | n => Tryz.lays105_ren.f n, Tryz.lays105_ren.t, Tryz.lays105_ren.g⟩
theorem lays167 : Go.Proofs.Lays.n167 Tryz.prog ren167 := {
 mixed := by kernel_rfl
 f167 := by kernel_rfl
 f240 := by kernel_rfl
 f276 := by kernel_rfl
 t0 := Tryz.lays105.t0
 a0 := Tryz.lays105.a0
 z0 := Tryz.lays105.z0
 v0 := Tryz.lays105.v0
 t4 := Tryz.lays105.t4
 a4 := Tryz.lays105.a4
 z4 := Tryz.lays105.z4
 v4 := Tryz.lays105.v4
 t5 := Tryz.lays105.t5
 a5 := Tryz.lays105.a5
 z5 := Tryz.lays105.z5
 v5 := Tryz.lays105.v5
 t9 := Tryz.lays105.t9
 a9 := Tryz.lays105.a9
 z9 := Tryz.lays105.z9
 v9 := Tryz.lays105.v9
 t20 := Tryz.lays105.t20
 a20 := Tryz.lays105.a20
 z20 := Tryz.lays105.z20
 v20 := Tryz.lays105.v20
 t37 := Tryz.lays105.t37
 a37 := Tryz.lays105.a37
 z37 := Tryz.lays105.z37
 v37 := Tryz.lays105.v37
 t70 := Tryz.lays105.t70
 a70 := Tryz.lays105.a70
 z70 := Tryz.lays105.z70
 v70 := Tryz.lays105.v70
 t72 := Tryz.lays105.t72
 a72 := Tryz.lays105.a72
 z72 := Tryz.lays105.z72
 v72 := Tryz.lays105.v72
 t75 := Tryz.lays105.t75
 a75 := Tryz.lays105.a75
 z75 := Tryz.lays105.z75
 v75 := Tryz.lays105.v75
 t164 := Tryz.lays105.t164
 a164 := Tryz.lays105.a164
 z164 := Tryz.lays105.z164
 v164 := Tryz.lays105.v164 }
theorem extra167 : Builder.Extra Tryz.prog ren167 := {
 sizeBuilder := by kernel_rfl
 liesBuilder := by kernel_rfl
 t5 := Tryz.underlying5
 a5 := Tryz.isAgg5
 z5 := Tryz.sizeOf5
 v5 := Tryz.zeroValue5
 infoByte := by kernel_rfl
 cellsByte := by kernel_rfl
 sizeByte := by kernel_rfl
 neB5 := by decide }
theorem builder_below {T e : TypeId} {B b : Nat} {bs : List Value} {w u : World} (h : Lib.IsBuilderF T e B b bs w) (hb : Below w.heap.size w u) : Lib.IsBuilderF T e B b bs u := by
 have one : ∀ p, Lib.BuilderAtF T e B b p bs w → Lib.BuilderAtF T e B b p bs u := fun p h => by
  have hlt := h.lt
  obtain ⟨hB, v, hbk, hown, hne⟩ := h
  refine ⟨hB, v, (hb.block b hlt).trans hbk, ⟨hown.1, ?_⟩, hne⟩
  rcases hown.2 with hn | ⟨g, cap, cur, fz, hv, h1, hg, rest⟩
  ·exact .inl hn
  ·exact .inr ⟨g, cap, cur, fz, hv, h1, (hb.block g (Array.getElem?_eq_some_iff.1 hg).1).trans hg, rest⟩
 rcases h with h | h
 ·exact .inl (one _ h)
 ·exact .inr (one _ h)
theorem Tryz.writes (B b : Nat) (l s : List UInt8) (w : World) (h : Lib.IsBuilderF 100 5 B b (Lib.byteCells l) w) (hlen : l.length + s.length ≤ 140737488355328) (hBw : B ≤ w.heap.size) :
  Calls Tryz.prog 44 #[.pointer (some ⟨b, 0, none⟩), .string (txB s)] w fun e w' => e = .returned (.tuple #[.int .i64 s.length, .nilIface]) ∧ Lib.IsBuilderF 100 5 B b (Lib.byteCells (l ++ s)) w' ∧ Below B w w' := by
 refine (Any.Builder_WriteString_k { Tryz.lays105 with } Tryz.Builder_Extra_105 B b (Lib.byteCells l) (txB s) w h (by rw [Lib.byteCells_length, txB_size]; exact hlen) hBw).mono ?_
 rintro e w' ⟨rfl, h1, h2, _⟩
 have e1 : Lib.byteCells l ++ Lib.strCells (txB s) = Lib.byteCells (l ++ s) := by simp [Lib.byteCells, Lib.strCells]
 rw [e1] at h1
 exact ⟨by rw [txB_size], .inr h1, h2⟩
theorem Tryz.writeb (B b : Nat) (l : List UInt8) (w : World) (h : Lib.IsBuilderF 100 5 B b (Lib.byteCells l) w) (hlen : l.length + 1 ≤ 140737488355328) (hBw : B ≤ w.heap.size) :
  Calls Tryz.prog 43 #[.pointer (some ⟨b, 0, none⟩), .int .u8 32] w fun e w' => e = .returned .nilIface ∧ Lib.IsBuilderF 100 5 B b (Lib.byteCells (l ++ [32])) w' ∧ Below B w w' := by
 refine (Any.Builder_WriteByte_k lays167 extra167 B b (Lib.byteCells l) 32 w h (by rw [Lib.byteCells_length]; exact hlen) hBw).mono ?_
 rintro e w' ⟨rfl, h1, h2, _⟩
 have e1 : Lib.byteCells l ++ [Value.int .u8 32] = Lib.byteCells (l ++ [32]) := by simp [Lib.byteCells]
 rw [e1] at h1
 exact ⟨rfl, .inr h1, h2⟩
set_option maxHeartbeats 4000000 in
theorem joinb_c (l : List Tk) (hl : l.length ≤ 3000) (ht : ∀ x ∈ l, x.t.length ≤ 100) (v : Value) (w : World) (hv : HoldsT w v l) (hT : w.cell? ⟨5, 15, none⟩ = some (.int .u8 4)) :
  Calls Tryz.prog 25 #[v] w fun e w' => e = .returned (.tuple #[.string (txB (joinR l none []).1), .int .i64 (joinR l none []).2]) ∧ Below w.heap.size w w' := by
 obtain ⟨R, hR⟩ : ∃ R, joinR l none [] = R := ⟨_, rfl⟩
 rw [hR]
 obtain ⟨p, c, rfl⟩ := hv.form
 have HV := hid hv
 have HR := hid hR
 have HL := hid hl
 have Ht := hid ht
 clear hv hR hl ht
 go_enter Tryz.func25, Tryz.ntmps25
 go_wp2
 go_loopw [11] (fun i wr => ∃ (k : Nat) (acc : List UInt8), i = .int .i64 (k : Int) ∧ Hid (k ≤ l.length ∧ joinR (l.drop k) (prevK l k) acc = R ∧ acc.length ≤ 101 * k) ∧ Hid (Lib.IsBuilderF 100 5 w.heap.size w.heap.size (Lib.byteCells acc) wr) ∧ Below w.heap.size w wr) (fun i _ => l.length - (intOf i).toNat)
 case atStart =>
  refine ⟨0, [], rfl, hid ⟨by omega, by rw [List.drop_zero]; exact HR.out, by simp⟩, hid ?_, by go_grown⟩
  exact Lib.IsBuilderF.of (Lib.fresh_isBuilder _ _ w)
 case round =>
  obtain ⟨k, acc, rfl, HQ, HBu, hB⟩ := hrel
  obtain ⟨q1, q2, q3⟩ := HQ.out
  have hl := HL.out
  by_cases hlt : k < l.length
  ·have hd : decide ((k : Int) < (l.length : Int)) = true := decide_eq_true (by omega)
   have hin : (0 : Int) ≤ (k : Int) ∧ (k : Int) < (l.length : Int) := by omega
   have hx := List.getElem?_eq_getElem hlt
   have htx := Ht.out _ (List.getElem_mem hlt)
   have hpk := prevK_next l k _ hx
   have hTr := kc hB hT
   rcases (HV.out.below hB) with ⟨_, hh⟩ | ⟨g, o, cap, e1, hc, h1⟩
   ·rw [hh] at hlt; exact absurd hlt (by simp)
   cases e1
   obtain ⟨a0, a1, a2, a3, a4⟩ := h1 k _ hx
   have hprev : (k = 0 ∧ prevK l k = none) ∨ (∃ y, 1 ≤ k ∧ prevK l k = some y ∧ wr.cell? ⟨g, o + (k - 1) * 5, none⟩ = some (.int .i64 y)) := by
    by_cases hk0 : k = 0
    ·left; exact ⟨hk0, by unfold prevK; rw [if_pos hk0]⟩
    ·right
     have hy : l[k - 1]? = some l[k - 1] := List.getElem?_eq_getElem (by omega)
     refine ⟨l[k - 1].k, by omega, ?_, (h1 (k - 1) _ hy).1⟩
     unfold prevK
     rw [if_neg hk0, hy]
     rfl
   rw [List.drop_eq_getElem_cons hlt] at q2
   clear h1 hx
   generalize l[k] = x at *
   obtain ⟨xk, xt, xn, xl, xc⟩ := x
   dsimp only at htx a0 a1 a2 a3 a4 hpk
   have HTx := hid (fun W h => textp_c xk xt xn xl xc htx W h)
   have htl := textL_len xk xt xn htx
   have hlg := klt a0
   generalize txB xt = XT at *
   have hsw : w.heap.size ≤ wr.heap.size := hB.size
   have HB := hid hB
   have hbr : Below wr.heap.size wr wr := Below.refl _ _
   by_cases he : textE xk xt xn = 0
   ·have hstep : joinR (l.drop (k + 1)) (some xk) (acc ++ sepL (prevK l k) xk ++ textL xk xt xn) = R := by
     rw [← q2, joinR, if_neg (by rw [he]; simp)]
    rw [he] at HTx
    have hne : ∀ q : Int, (q == 4) = false → (q != 4) = true := fun q h => by unfold bne; rw [h]; rfl
    have HJ := hid (show k + 1 ≤ l.length ∧ k < l.length ∧ acc.length ≤ 101 * k ∧ k ≤ 3000 from ⟨by omega, hlt, q3, by omega⟩)
    have hnew : (joinR (l.drop (k + 1)) (prevK l (k + 1)) (acc ++ sepL (prevK l k) xk ++ textL xk xt xn) = R) := by rw [hpk]; exact hstep
    have HNew := hid hnew
    have HTl := hid htl
    have hi1 : (k : Int) + 1 = ((k + 1 : Nat) : Int) := by omega
    have w1 : IntKind.i64.wrap ((k : Int) + 1) = (k : Int) + 1 := IntWalk.i64_in _ (by omega)
    have w2 : IntKind.i64.wrap ((k : Int) - 1) = (k : Int) - 1 := IntWalk.i64_in _ (by omega)
    obtain ⟨TL, hTL⟩ : ∃ TL, textL xk xt xn = TL := ⟨_, rfl⟩
    rw [hTL] at HTx HNew HTl
    clear hstep hnew he htl hi1 htx hpk hTL
    rcases hprev with ⟨hk0, hpv⟩ | ⟨y, hk1, hpv, hcell⟩
    ·have HSep := hid (show sepL (prevK l k) xk = [] from by rw [hpv]; rfl)
     have c1 : decide ((0 : Int) < (k : Int)) = false := decide_eq_false (by omega)
     have c2 : ¬ 0 < k := by omega
     clear q1 q2 q3 hl HQ hB hpv hk0
     go_wp2_with fail
     ((with_reducible refine (HTx.out _ (kc ((Below.refl _ wr).alloc (Nat.le_refl _) _) hTr)).mono ?_); rintro _ u1 ⟨rfl, hb⟩)
     have T : CC u1 wr.heap.size 0 1 (.int .i64 xk) (.string XT) ∧ CC u1 wr.heap.size 2 3 (.int .i64 xn) (.int .i64 xl) ∧ u1.cell? ⟨wr.heap.size, 4, none⟩ = some (.int .i64 xc) := by
       refine ⟨⟨?_, ?_⟩, ⟨?_, ?_⟩, ?_⟩ <;> refine kc hb ?_ <;> (go_simp; first | done | rfl)
     have hz := hb.size
     (try simp only [szA] at hz)
     have L : wr.heap.size < u1.heap.size := by omega
     have hB' : Below wr.heap.size wr u1 := by
       refine kb ?_ hb
       go_grown
     clear hb hz
     obtain ⟨⟨ht_0, ht_1⟩, ⟨ht_2, ht_3⟩, ht_4⟩ := T
     have hlt := L; clear L
     obtain ⟨hnt0, hnt1, hkt1, hnt2, hkt2⟩ := ap0 hlt
     have hB := hB'; clear hB'
     have hsz := hB.size
     go_wp2_with fail
     refine (Tryz.writes w.heap.size w.heap.size acc TL u1 (builder_below HBu.out hB) ?_ ?_).mono ?_
     ·have := HJ.out; have := HTl.out; omega
     ·have := hB.size; omega
     rintro _ u3 ⟨rfl, hBu3, hb3⟩
     have HBn := hid hBu3
     have hBf : Below w.heap.size w u3 := (HB.out.trans (Below.mono hB hsw)).trans hb3
     clear hBu3 hb3
     go_wp2
     go_roundw
     case rel => exact ⟨k + 1, acc ++ TL, by go_num, hid ⟨HJ.out.1, by have h := HNew.out; rw [HSep.out, List.append_nil] at h; exact h, by have := HJ.out; have := HTl.out; rw [List.length_append]; omega⟩, HBn, hBf⟩
     case measure => have := HJ.out; simp [intOf]; omega
    ·have hq4 : (y == 4) = true → sepL (prevK l k) xk = [] := fun h => by
      rw [hpv]
      show (if _ then _ else _) = _
      rw [if_neg (fun h2 => h2.1 (beq_iff_eq.1 h))]
     have hx4 : (xk == 4) = true → sepL (prevK l k) xk = [] := fun h => by
      rw [hpv]
      show (if _ then _ else _) = _
      rw [if_neg (fun h2 => h2.2 (beq_iff_eq.1 h))]
     have hb4 : (y == 4) = false → (xk == 4) = false → sepL (prevK l k) xk = [32] := fun h h3 => by
      rw [hpv]
      show (if _ then _ else _) = _
      rw [if_pos ⟨beq_eq_false_iff_ne.1 h, beq_eq_false_iff_ne.1 h3⟩]
     cases hy4 : (y == 4)
     ·have n4 := hne y hy4
      cases hk4 : (xk == 4)
      ·have m4 := hne xk hk4
       have HSep := hid (hb4 hy4 hk4)
       clear hq4 hx4 hb4 hne
       have c1 : decide ((0 : Int) < (k : Int)) = true := decide_eq_true (by omega)
       have c2 : 0 < k := by omega
       have hin1 : (0 : Int) ≤ (k : Int) - 1 ∧ (k : Int) - 1 < (l.length : Int) := by omega
       have hin2 : (1 : Int) ≤ (k : Int) := by omega
       have hin3 : 1 ≤ k := by omega
       have hin4 : k - 1 < l.length := by omega
       have hlg2 := klt hcell
       clear q1 q2 q3 hl HQ hB
       have hy_0 := hcell
       clear hpv hk1
       go_wp2_with fail
       ((with_reducible refine (HTx.out _ (kc ((Below.refl _ wr).alloc (Nat.le_refl _) _) hTr)).mono ?_); rintro _ u1 ⟨rfl, hb⟩)
       have T : CC u1 wr.heap.size 0 1 (.int .i64 xk) (.string XT) ∧ CC u1 wr.heap.size 2 3 (.int .i64 xn) (.int .i64 xl) ∧ u1.cell? ⟨wr.heap.size, 4, none⟩ = some (.int .i64 xc) ∧ u1.cell? ⟨g, o + (k - 1) * 5, none⟩ = some (.int .i64 y) := by
         refine ⟨⟨?_, ?_⟩, ⟨?_, ?_⟩, ?_, ?_⟩ <;> refine kc hb ?_ <;> (go_simp; first | done | rfl)
       have hz := hb.size
       (try simp only [szA] at hz)
       have L : wr.heap.size < u1.heap.size ∧ g < u1.heap.size := by omega
       have hB' : Below wr.heap.size wr u1 := by
         refine kb ?_ hb
         go_grown
       clear hb hz
       obtain ⟨⟨ht_0, ht_1⟩, ⟨ht_2, ht_3⟩, ht_4, hy_0⟩ := T
       obtain ⟨hlt, hly⟩ := L
       obtain ⟨hnt0, hnt1, hkt1, hnt2, hkt2⟩ := ap0 hlt
       obtain ⟨hny0, hny1, hky1, hny2, hky2⟩ := ap0 hly
       have hB := hB'; clear hB'
       have hsz := hB.size
       go_wp2_with fail
       refine (Tryz.writeb w.heap.size w.heap.size acc u1 (builder_below HBu.out hB) ?_ ?_).mono ?_
       ·have := HJ.out; omega
       ·have := hB.size; omega
       rintro _ u2 ⟨rfl, hBu2, hb2⟩
       have HBn2 := hid hBu2
       have hBx : Below w.heap.size w u2 := (HB.out.trans (Below.mono hB hsw)).trans hb2
       clear hBu2 hb2
       go_wp2_with fail
       refine (Tryz.writes w.heap.size w.heap.size (acc ++ [32]) TL u2 HBn2.out ?_ ?_).mono ?_
       ·have := HJ.out; have := HTl.out; rw [List.length_append]; simp only [List.length_cons, List.length_nil]; omega
       ·exact hBx.size
       rintro _ u3 ⟨rfl, hBu3, hb3⟩
       have HBn := hid hBu3
       have hBf : Below w.heap.size w u3 := hBx.trans hb3
       clear hBu3 hb3
       go_wp2
       go_roundw
       case rel => exact ⟨k + 1, acc ++ [32] ++ TL, by go_num, hid ⟨HJ.out.1, by rw [← HSep.out]; exact HNew.out, by have := HJ.out; have := HTl.out; rw [List.length_append, List.length_append]; simp only [List.length_cons, List.length_nil]; omega⟩, HBn, hBf⟩
       case measure => have := HJ.out; simp [intOf]; omega
      ·have m4 : (xk != 4) = false := by unfold bne; rw [hk4]; rfl
       have HSep := hid (hx4 hk4)
       clear hq4 hx4 hb4 hne
       have c1 : decide ((0 : Int) < (k : Int)) = true := decide_eq_true (by omega)
       have c2 : 0 < k := by omega
       have hin1 : (0 : Int) ≤ (k : Int) - 1 ∧ (k : Int) - 1 < (l.length : Int) := by omega
       have hin2 : (1 : Int) ≤ (k : Int) := by omega
       have hin3 : 1 ≤ k := by omega
       have hin4 : k - 1 < l.length := by omega
       have hlg2 := klt hcell
       clear q1 q2 q3 hl HQ hB
       clear hpv hk1
       go_wp2_with fail
       ((with_reducible refine (HTx.out _ (kc ((Below.refl _ wr).alloc (Nat.le_refl _) _) hTr)).mono ?_); rintro _ u1 ⟨rfl, hb⟩)
       have T : CC u1 wr.heap.size 0 1 (.int .i64 xk) (.string XT) ∧ CC u1 wr.heap.size 2 3 (.int .i64 xn) (.int .i64 xl) ∧ u1.cell? ⟨wr.heap.size, 4, none⟩ = some (.int .i64 xc) ∧ u1.cell? ⟨g, o + (k - 1) * 5, none⟩ = some (.int .i64 y) := by
         refine ⟨⟨?_, ?_⟩, ⟨?_, ?_⟩, ?_, ?_⟩ <;> refine kc hb ?_ <;> (go_simp; first | done | rfl)
       have hz := hb.size
       (try simp only [szA] at hz)
       have L : wr.heap.size < u1.heap.size ∧ g < u1.heap.size := by omega
       have hB' : Below wr.heap.size wr u1 := by
         refine kb ?_ hb
         go_grown
       clear hb hz
       obtain ⟨⟨ht_0, ht_1⟩, ⟨ht_2, ht_3⟩, ht_4, hy_0⟩ := T
       obtain ⟨hlt, hly⟩ := L
       obtain ⟨hnt0, hnt1, hkt1, hnt2, hkt2⟩ := ap0 hlt
       obtain ⟨hny0, hny1, hky1, hny2, hky2⟩ := ap0 hly
       have hB := hB'; clear hB'
       have hsz := hB.size
       go_wp2_with fail
       refine (Tryz.writes w.heap.size w.heap.size acc TL u1 (builder_below HBu.out hB) ?_ ?_).mono ?_
       ·have := HJ.out; have := HTl.out; omega
       ·have := hB.size; omega
       rintro _ u3 ⟨rfl, hBu3, hb3⟩
       have HBn := hid hBu3
       have hBf : Below w.heap.size w u3 := (HB.out.trans (Below.mono hB hsw)).trans hb3
       clear hBu3 hb3
       go_wp2
       go_roundw
       case rel => exact ⟨k + 1, acc ++ TL, by go_num, hid ⟨HJ.out.1, by have h := HNew.out; rw [HSep.out, List.append_nil] at h; exact h, by have := HJ.out; have := HTl.out; rw [List.length_append]; omega⟩, HBn, hBf⟩
       case measure => have := HJ.out; simp [intOf]; omega
     ·have n4 : (y != 4) = false := by unfold bne; rw [hy4]; rfl
      have HSep := hid (hq4 hy4)
      clear hq4 hx4 hb4 hne
      have c1 : decide ((0 : Int) < (k : Int)) = true := decide_eq_true (by omega)
      have c2 : 0 < k := by omega
      have hin1 : (0 : Int) ≤ (k : Int) - 1 ∧ (k : Int) - 1 < (l.length : Int) := by omega
      have hin2 : (1 : Int) ≤ (k : Int) := by omega
      have hin3 : 1 ≤ k := by omega
      have hin4 : k - 1 < l.length := by omega
      have hlg2 := klt hcell
      clear q1 q2 q3 hl HQ hB
      clear hpv hk1
      go_wp2_with fail
      ((with_reducible refine (HTx.out _ (kc ((Below.refl _ wr).alloc (Nat.le_refl _) _) hTr)).mono ?_); rintro _ u1 ⟨rfl, hb⟩)
      have T : CC u1 wr.heap.size 0 1 (.int .i64 xk) (.string XT) ∧ CC u1 wr.heap.size 2 3 (.int .i64 xn) (.int .i64 xl) ∧ u1.cell? ⟨wr.heap.size, 4, none⟩ = some (.int .i64 xc) ∧ u1.cell? ⟨g, o + (k - 1) * 5, none⟩ = some (.int .i64 y) := by
        refine ⟨⟨?_, ?_⟩, ⟨?_, ?_⟩, ?_, ?_⟩ <;> refine kc hb ?_ <;> (go_simp; first | done | rfl)
      have hz := hb.size
      (try simp only [szA] at hz)
      have L : wr.heap.size < u1.heap.size ∧ g < u1.heap.size := by omega
      have hB' : Below wr.heap.size wr u1 := by
        refine kb ?_ hb
        go_grown
      clear hb hz
      obtain ⟨⟨ht_0, ht_1⟩, ⟨ht_2, ht_3⟩, ht_4, hy_0⟩ := T
      obtain ⟨hlt, hly⟩ := L
      obtain ⟨hnt0, hnt1, hkt1, hnt2, hkt2⟩ := ap0 hlt
      obtain ⟨hny0, hny1, hky1, hny2, hky2⟩ := ap0 hly
      have hB := hB'; clear hB'
      have hsz := hB.size
      go_wp2_with fail
      refine (Tryz.writes w.heap.size w.heap.size acc TL u1 (builder_below HBu.out hB) ?_ ?_).mono ?_
      ·have := HJ.out; have := HTl.out; omega
      ·have := hB.size; omega
      rintro _ u3 ⟨rfl, hBu3, hb3⟩
      have HBn := hid hBu3
      have hBf : Below w.heap.size w u3 := (HB.out.trans (Below.mono hB hsw)).trans hb3
      clear hBu3 hb3
      go_wp2
      go_roundw
      case rel => exact ⟨k + 1, acc ++ TL, by go_num, hid ⟨HJ.out.1, by have h := HNew.out; rw [HSep.out, List.append_nil] at h; exact h, by have := HJ.out; have := HTl.out; rw [List.length_append]; omega⟩, HBn, hBf⟩
      case measure => have := HJ.out; simp [intOf]; omega
   ·have HF := hid (show R = ([], textE xk xt xn) from by rw [← q2, joinR, if_pos he])
    have he2 : (textE xk xt xn != 0) = true := by simp [bne, he]
    generalize textE xk xt xn = E at *
    generalize txB (textL xk xt xn) = TX at *
    clear q1 q2 q3 hl HQ he htx htl hpk hprev HBu hB
    go_wp2_with fail
    ((with_reducible refine (HTx.out _ (kc ((Below.refl _ wr).alloc (Nat.le_refl _) _) hTr)).mono ?_); rintro _ u1 ⟨rfl, hb⟩)
    have T : CC u1 wr.heap.size 0 1 (.int .i64 xk) (.string XT) ∧ CC u1 wr.heap.size 2 3 (.int .i64 xn) (.int .i64 xl) ∧ u1.cell? ⟨wr.heap.size, 4, none⟩ = some (.int .i64 xc) := by
      refine ⟨⟨?_, ?_⟩, ⟨?_, ?_⟩, ?_⟩ <;> refine kc hb ?_ <;> (go_simp; first | done | rfl)
    have hz := hb.size
    (try simp only [szA] at hz)
    have L : wr.heap.size < u1.heap.size := by omega
    have hB' : Below wr.heap.size wr u1 := by
      refine kb ?_ hb
      go_grown
    clear hb hz
    obtain ⟨⟨ht_0, ht_1⟩, ⟨ht_2, ht_3⟩, ht_4⟩ := T
    have hlt := L; clear L
    obtain ⟨hnt0, hnt1, hkt1, hnt2, hkt2⟩ := ap0 hlt
    have hB := hB'; clear hB'
    have hsz := hB.size
    go_wp2
    refine bodyPost_ret (v := .tuple #[.string ⟨#[]⟩, .int .i64 E]) (by simp [results, Tryz.results25, go_sem]) rfl ⟨by rw [HF.out], HB.out.trans (Below.mono hB hsw)⟩
  ·have hd : decide ((k : Int) < (l.length : Int)) = false := decide_eq_false (by omega)
   have HF := hid (show R = (acc, 0) from by rw [← q2, List.drop_eq_nil_of_le (by omega)]; rfl)
   clear q1 q2 q3 hl HQ
   go_wp2_with fail
   refine (Tryz.Builder_String_any_k w.heap.size w.heap.size acc wr HBu.out hB.size).mono ?_
   rintro _ u ⟨rfl, _, hb, _⟩
   have hB2 := hB.trans hb
   clear hB hb
   go_wp2
   refine bodyPost_ret (v := .tuple #[.string (txB acc), .int .i64 0]) (by simp [results, Tryz.results25, go_sem]) rfl ⟨by rw [HF.out], hB2⟩
end Go.Proofs.YtjcmblbnbpikfaaGreatDoor
