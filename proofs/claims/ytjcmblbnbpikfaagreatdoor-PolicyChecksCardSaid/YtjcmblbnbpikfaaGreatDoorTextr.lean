/-
  Layer 6's document: a number in hexadecimal digits; a token's text.
-/
import Derived.Test.YtjcmblbnbpikfaaGreatDoorJoinb
set_option linter.unusedSimpArgs false
set_option linter.unusedVariables false
namespace Go.Proofs.YtjcmblbnbpikfaaGreatDoor
open Go.RowKit Go.PlainAid

theorem low_bI (d : Nat) (hd : d < 16) : bI (lowL d) = if d < 10 then 48 + (d : Int) else 87 + (d : Int) := by
  have : ∀ d : Fin 16, bI (lowL d.val) = if d.val < 10 then 48 + (d.val : Int) else 87 + (d.val : Int) := by decide +kernel
  exact this ⟨d, hd⟩
theorem conv_one (W : World) (b : UInt8) (X : Int) (hX : bI b = X) : (convert 98 9 (.slice (some ⟨W.heap.size, 0, none⟩) 1 1)).run Tryz.prog (W.alloc (.cells #[.int .u8 X] 5)) = .ok (.string (txB [b])) (W.alloc (.cells #[.int .u8 X] 5)) := by
  have hc := run_convert_bytes_back (P := Tryz.prog) (W.alloc (.cells #[.int .u8 X] 5)) 98 9 5 ⟨W.heap.size, 0, none⟩ 1 [b] Tryz.underlying98 Tryz.underlying5 Tryz.underlying9 (fun i hi => by
    obtain rfl : i = 0 := by simpa using hi
    have hh := heap_alloc_new W (.cells #[.int .u8 X] 5)
    rw [Addr.add_lit]
    simp only [World.cell?, hh]
    rw [← hX]
    rfl)
  exact hc
set_option maxRecDepth 100000 in
set_option maxHeartbeats 2000000 in
theorem hexr_c (n m : Nat) (hn : n ≤ 65535) (hm : m ≤ 4) (w : World) : Calls Tryz.prog 65 #[.int .i64 (n : Int), .int .i64 (m : Int)] w fun e w' => e = .returned (.string (txB (lowsL n m))) ∧ Below w.heap.size w w' := by
  have HM := Lib.hid (And.intro hn hm)
  clear hn hm
  obtain ⟨M, hM⟩ : ∃ M : Int, (m : Int) = M := ⟨_, rfl⟩
  rw [hM]
  have HMI := Lib.hid hM
  clear hM
  obtain ⟨N0, hN0⟩ : ∃ N0 : Int, (n : Int) = N0 := ⟨_, rfl⟩
  rw [hN0]
  have HN0 := Lib.hid hN0
  clear hN0
  go_enter Tryz.func65, Tryz.ntmps65
  go_wp2
  go_loopw [0, 5, 6] (fun a o i wr => ∃ (k : Nat) (K N : Int) (X : ByteArray), a = .int .i64 N ∧ o = .string X ∧ i = .int .i64 K ∧ Hid (K = k ∧ k ≤ m ∧ N = ((n / 16 ^ k : Nat) : Int) ∧ X = txB (lowsL n k)) ∧ Below w.heap.size w wr) (fun a o i _ => m - (intOf i).toNat)
  case atStart => exact ⟨0, 0, N0, ⟨#[]⟩, rfl, rfl, rfl, Lib.hid ⟨rfl, by omega, by rw [← HN0.out]; simp, rfl⟩, Below.refl _ _⟩
  case round =>
    obtain ⟨k, K, N, X, rfl, rfl, rfl, HQ, hB⟩ := hrel
    obtain ⟨q1, q2, q3, q4⟩ := HQ.out
    have hm := HM.out
    have hM := HMI.out
    by_cases hlt : k < m
    · have hd : decide (K < M) = true := decide_eq_true (by omega)
      have w3 : IntKind.i64.wrap (K + 1) = K + 1 := IntWalk.i64_in _ (by omega)
      have hdl : n / 16 ^ k ≤ n := Nat.div_le_self _ _
      have hXz : X.size ≤ 4 := by rw [q4, txB_size, lows_len]; omega
      have hN1 : 0 ≤ N := by rw [q3]; exact Int.natCast_nonneg _
      have hN2 : N ≤ 65535 := by rw [q3]; exact Int.ofNat_le.2 (Nat.le_trans hdl hm.1)
      have hlow := low_bI (n / 16 ^ k % 16) (Nat.mod_lt _ (by omega))
      have hD : ((n / 16 ^ k % 16 : Nat) : Int) = N % 16 := by rw [q3]; generalize n / 16 ^ k = x; omega
      have hnx : N / 16 = ((n / 16 ^ (k + 1) : Nat) : Int) := by
        rw [q3, Nat.pow_succ, ← Nat.div_div_eq_div_mul]
        generalize n / 16 ^ k = x
        omega
      obtain ⟨D, hDD⟩ : ∃ D, N % 16 = D := ⟨_, rfl⟩
      have hD0 : 0 ≤ D := by omega
      have hD1 : D < 16 := by omega
      rw [hD, hDD] at hlow
      have HJ := Lib.hid (show K = k ∧ k < m from ⟨q1, hlt⟩)
      have hlt10 : (n / 16 ^ k % 16 < 10) ↔ D < 10 := by rw [← hDD, ← hD]; generalize n / 16 ^ k % 16 = x; omega
      have hcat : txB [lowL (n / 16 ^ k % 16)] ++ X = txB (lowsL n (k + 1)) := by
        rw [q4, txB_append]
        rfl
      have hB1z : (txB [lowL (n / 16 ^ k % 16)]).size ≤ 1 := by rw [txB_size]; simp
      have HN := Lib.hid (show K + 1 = ((k + 1 : Nat) : Int) ∧ k + 1 ≤ m ∧ N / 16 = ((n / 16 ^ (k + 1) : Nat) : Int) ∧ txB [lowL (n / 16 ^ k % 16)] ++ X = txB (lowsL n (k + 1)) from ⟨by omega, by omega, hnx, hcat⟩)
      have hcv := fun Y hY => conv_one wr (lowL (n / 16 ^ k % 16)) Y hY
      by_cases h10 : D < 10
      · have d10 : decide (D < 10) = true := decide_eq_true h10
        rw [if_pos (hlt10.2 h10)] at hlow
        have q := hcv _ hlow
        have wu : IntKind.u8.wrap (48 + D) = 48 + D := by rw [IntKind.wrap_u8]; omega
        have wi : IntKind.i64.wrap (48 + D) = 48 + D := IntWalk.i64_in _ (by omega)
        generalize txB [lowL (n / 16 ^ k % 16)] = B1 at *
        clear q1 q2 q3 q4 hm hM hlt hdl hnx hlow hlt10 hcat hcv HQ hD h10
        go_wp2
        go_roundw
        case rel => exact ⟨k + 1, K + 1, N / 16, _, rfl, rfl, rfl, HN, hB.alloc hB.size _⟩
        case measure => have := HJ.out; simp only [intOf]; omega
      · have d10 : decide (D < 10) = false := decide_eq_false h10
        rw [if_neg (fun h => h10 (hlt10.1 h))] at hlow
        have q := hcv _ hlow
        have wu : IntKind.u8.wrap (87 + D) = 87 + D := by rw [IntKind.wrap_u8]; omega
        have wi : IntKind.i64.wrap (87 + D) = 87 + D := IntWalk.i64_in _ (by omega)
        generalize txB [lowL (n / 16 ^ k % 16)] = B1 at *
        clear q1 q2 q3 q4 hm hM hlt hdl hnx hlow hlt10 hcat hcv HQ hD h10
        go_wp2
        go_roundw
        case rel => exact ⟨k + 1, K + 1, N / 16, _, rfl, rfl, rfl, HN, hB.alloc hB.size _⟩
        case measure => have := HJ.out; simp only [intOf]; omega
    · have hd : decide (K < M) = false := decide_eq_false (by omega)
      have HF := Lib.hid (show X = txB (lowsL n m) from by rw [q4, show k = m from by omega])
      clear q1 q2 q3 q4 hm hM hlt HQ
      go_wp2
      go_ret
      exact ⟨by show Ending.returned (.string X) = _; rw [HF.out], hB⟩
theorem word_no (t : List UInt8) (k : Nat) (h : k < t.length) (e : isLet (at8 t k) = false) : wordB t = false := by
  unfold wordB
  cases ha : t.all isLet
  · simp
  · have := List.all_eq_true.1 ha _ (List.getElem_mem h)
    rw [← at8_get t k h, e] at this
    cases this
set_option maxRecDepth 100000 in
set_option maxHeartbeats 2000000 in
theorem textr_word (t : List UInt8) (n li co : Int) (ht : t.length ≤ 100) (w : World) :
    Calls Tryz.prog 48 #[.agg #[.int .i64 1, .string (txB t), .int .i64 n, .int .i64 li, .int .i64 co]] w fun e w' => e = .returned (.tuple #[.string (txB (textL 1 t n)), .int .i64 (textE 1 t n)]) ∧ Below w.heap.size w w' := by
  have HT := Lib.hid (show (wordB t = true → textL 1 t n = t ∧ textE 1 t n = 0) ∧ (wordB t = false → textL 1 t n = [] ∧ textE 1 t n = 11) from by
    unfold textL textE
    rw [if_pos rfl, if_pos rfl]
    exact ⟨fun h => by rw [h]; exact ⟨rfl, rfl⟩, fun h => by rw [h]; exact ⟨rfl, rfl⟩⟩)
  generalize textL 1 t n = TL at *
  generalize textE 1 t n = TE at *
  have HL := Lib.hid ht
  have HZ := Lib.hid (txB_size t)
  clear ht
  generalize hS : txB t = S at *
  have HS := Lib.hid hS
  clear hS
  go_enter Tryz.func48, Tryz.ntmps48
  go_wp2
  go_loop [4] (fun i => ∃ (k : Nat) (K : Int), i = .int .i64 K ∧ Hid (K = k ∧ k ≤ t.length ∧ (t.take k).all isLet = true)) (fun i => t.length - (intOf i).toNat)
  case atStart => exact ⟨0, 0, rfl, Lib.hid ⟨rfl, by omega, rfl⟩⟩
  case round =>
    obtain ⟨k, K, rfl, HQ⟩ := hrel
    obtain ⟨q1, q2, q3⟩ := HQ.out
    have hz := HZ.out
    have hl := HL.out
    by_cases hlt : k < t.length
    · have hd : decide (K < (S.size : Int)) = true := decide_eq_true (by omega)
      have q := fun W => by have := ix_l t k hlt K q1 W; rw [HS.out] at this; exact this
      have w3 : IntKind.i64.wrap (K + 1) = K + 1 := IntWalk.i64_in _ (by omega)
      have HI := Lib.hid (fun W => letter_c (at8 t k) W)
      cases e : isLet (at8 t k)
      · have HF := Lib.hid (HT.out.2 (word_no t k hlt e))
        rw [e] at HI
        generalize bI (at8 t k) = c at *
        clear q1 q2 q3 hz hl hlt HQ e
        go_wp2_with (go_at_call 64; (with_reducible refine (HI.out _).mono ?_); rintro _ _ ⟨rfl, rfl⟩)
        refine bodyPost_ret (v := .tuple #[.string ⟨#[]⟩, .int .i64 11]) (by simp [results, Tryz.results48, go_sem]) rfl ⟨by rw [HF.out.1, HF.out.2], by go_grown⟩
      · have HN := Lib.hid (show K + 1 = ((k + 1 : Nat) : Int) ∧ k + 1 ≤ t.length ∧ (t.take (k + 1)).all isLet = true ∧ K = k ∧ k < t.length from ⟨by omega, by omega, by
          rw [List.take_succ_eq_append_getElem hlt, List.all_append, q3, ← at8_get t k hlt]
          simp [e], q1, hlt⟩)
        rw [e] at HI
        generalize bI (at8 t k) = c at *
        clear q1 q2 q3 hz hl hlt HQ e
        go_wp2_with (go_at_call 64; (with_reducible refine (HI.out _).mono ?_); rintro _ _ ⟨rfl, rfl⟩)
        go_round
        case rel => exact ⟨k + 1, K + 1, rfl, Lib.hid ⟨HN.out.1, HN.out.2.1, HN.out.2.2.1⟩⟩
        case measure => have := HN.out.2.2.2; simp only [intOf]; omega
    · have hd : decide (K < (S.size : Int)) = false := decide_eq_false (by omega)
      have hall : t.all isLet = true := by rw [List.take_of_length_le (by omega)] at q3; exact q3
      by_cases h0 : t = []
      · have c0 : ((S.size : Int) == 0) = true := by rw [hz, h0]; rfl
        have HF := Lib.hid (HT.out.2 (by rw [h0]; rfl))
        clear q1 q2 q3 hz hl hlt HQ hall h0
        go_wp2
        refine bodyPost_ret (v := .tuple #[.string ⟨#[]⟩, .int .i64 11]) (by simp [results, Tryz.results48, go_sem]) rfl ⟨by rw [HF.out.1, HF.out.2], by go_grown⟩
      · have hp := List.length_pos_iff.2 h0
        have c0 : ((S.size : Int) == 0) = false := beq_eq_false_iff_ne.2 (by omega)
        have HF := Lib.hid (HT.out.1 (by unfold wordB; rw [hall, Bool.and_true]; cases t with | nil => exact absurd rfl h0 | cons _ _ => rfl))
        clear q1 q2 q3 hz hl hlt HQ hall h0 hp
        go_wp2
        refine bodyPost_ret (v := .tuple #[.string S, .int .i64 0]) (by simp [results, Tryz.results48, go_sem]) rfl ⟨by rw [HF.out.1, HF.out.2, HS.out], by go_grown⟩
set_option maxRecDepth 100000 in
set_option maxHeartbeats 2000000 in
theorem textr_c (k : Int) (t : List UInt8) (n li co : Int) (ht : t.length ≤ 100) (w : World) :
    Calls Tryz.prog 48 #[.agg #[.int .i64 k, .string (txB t), .int .i64 n, .int .i64 li, .int .i64 co]] w fun e w' => e = .returned (.tuple #[.string (txB (textL k t n)), .int .i64 (textE k t n)]) ∧ Below w.heap.size w w' := by
  rcases text_ways k t n with ⟨rfl, h1, e1, e2⟩ | ⟨rfl, h1, e1, e2⟩ | ⟨rfl, h1, e1, e2⟩ | ⟨rfl, h0, h1, e1, e2⟩ | ⟨rfl, h0, h1, e1, e2⟩ | ⟨rfl, e1, e2⟩ | ⟨rfl, e1, e2⟩ | ⟨h1, h2, h3, h4, e1, e2⟩
  · exact textr_word t n li co ht w
  · exact textr_word t n li co ht w
  · rw [e1, e2]
    have d1 : decide (n < 0) = true := decide_eq_true h1
    generalize txB t = S at *
    clear e1 e2 h1 ht
    go_enter Tryz.func48, Tryz.ntmps48
    go_wp2
    refine bodyPost_ret (v := .tuple #[.string ⟨#[]⟩, .int .i64 10]) (by simp [results, Tryz.results48, go_sem]) rfl ⟨rfl, by go_grown⟩
  · rw [e1, e2]
    have d1 : decide (n < 0) = false := decide_eq_false h0
    have d2 : decide (65535 < n) = true := decide_eq_true h1
    generalize txB t = S at *
    clear e1 e2 h1 h0 ht
    go_enter Tryz.func48, Tryz.ntmps48
    go_wp2
    refine bodyPost_ret (v := .tuple #[.string ⟨#[]⟩, .int .i64 10]) (by simp [results, Tryz.results48, go_sem]) rfl ⟨rfl, by go_grown⟩
  · rw [e1, e2]
    have d1 : decide (n < 0) = false := decide_eq_false (by omega)
    have d2 : decide (65535 < n) = false := decide_eq_false (by omega)
    have e36 : ∀ m, ({ data := #[36] } : ByteArray) ++ txB (lowsL n.toNat m) = txB (36 :: lowsL n.toNat m) := fun m => txB_append [36] _
    have hz4 : (txB (lowsL n.toNat 4)).size ≤ 4 := by rw [txB_size, lows_len]; omega
    have hz2 : (txB (lowsL n.toNat 2)).size ≤ 4 := by rw [txB_size, lows_len]; omega
    by_cases hbig : 255 < n
    · have d3 : decide (255 < n) = true := decide_eq_true hbig
      have HX := Lib.hid (hexr_c n.toNat 4 (by omega) (by omega))
      rw [Int.toNat_of_nonneg h0, show ((4 : Nat) : Int) = 4 from rfl] at HX
      have HE := Lib.hid (e36 4)
      have ew : widthN n = 4 := by unfold widthN; rw [if_pos hbig]
      rw [ew]
      generalize txB (lowsL n.toNat 4) = A at *
      generalize txB (36 :: lowsL n.toNat 4) = O at *
      generalize txB t = S at *
      clear e1 e2 h1 h0 ht e36 ew hbig hz2
      go_enter Tryz.func48, Tryz.ntmps48
      go_wp2_with fail
      ((with_reducible refine (HX.out _).mono ?_); rintro _ u1 ⟨rfl, hb⟩)
      have T : CC u1 w.heap.size 0 1 (.int .i64 2) (.string S) ∧ CC u1 w.heap.size 2 3 (.int .i64 n) (.int .i64 li) ∧ u1.cell? ⟨w.heap.size, 4, none⟩ = some (.int .i64 co) := by
          refine ⟨⟨?_, ?_⟩, ⟨?_, ?_⟩, ?_⟩ <;> refine kc hb ?_ <;> (go_simp; first | done | rfl)
      have hz := hb.size
      (try simp only [World.size_alloc, World.size_setCell, World.size_drew] at hz)
      have L : w.heap.size < u1.heap.size := by omega
      have hB' : Below w.heap.size w u1 := by
          refine kb ?_ hb
          go_grown
      clear hb hz
      obtain ⟨⟨hx_0, hx_1⟩, ⟨hx_2, hx_3⟩, hx_4⟩ := T
      have hlx := L; clear L
      obtain ⟨hnx0, hnx1, hkx1, hnx2, hkx2⟩ := ap0 hlx
      have hB := hB'; clear hB'
      have hsz := hB.size
      go_wp2
      refine bodyPost_ret (v := .tuple #[.string O, .int .i64 0]) (by simp [results, Tryz.results48, go_sem, HE.out]) rfl ⟨rfl, by go_grown⟩
    · have d3 : decide (255 < n) = false := decide_eq_false hbig
      have HX := Lib.hid (hexr_c n.toNat 2 (by omega) (by omega))
      rw [Int.toNat_of_nonneg h0, show ((2 : Nat) : Int) = 2 from rfl] at HX
      have HE := Lib.hid (e36 2)
      have ew : widthN n = 2 := by unfold widthN; rw [if_neg hbig]
      rw [ew]
      generalize txB (lowsL n.toNat 2) = A at *
      generalize txB (36 :: lowsL n.toNat 2) = O at *
      generalize txB t = S at *
      clear e1 e2 h1 h0 ht e36 ew hbig hz4
      go_enter Tryz.func48, Tryz.ntmps48
      go_wp2_with fail
      ((with_reducible refine (HX.out _).mono ?_); rintro _ u1 ⟨rfl, hb⟩)
      have T : CC u1 w.heap.size 0 1 (.int .i64 2) (.string S) ∧ CC u1 w.heap.size 2 3 (.int .i64 n) (.int .i64 li) ∧ u1.cell? ⟨w.heap.size, 4, none⟩ = some (.int .i64 co) := by
          refine ⟨⟨?_, ?_⟩, ⟨?_, ?_⟩, ?_⟩ <;> refine kc hb ?_ <;> (go_simp; first | done | rfl)
      have hz := hb.size
      (try simp only [World.size_alloc, World.size_setCell, World.size_drew] at hz)
      have L : w.heap.size < u1.heap.size := by omega
      have hB' : Below w.heap.size w u1 := by
          refine kb ?_ hb
          go_grown
      clear hb hz
      obtain ⟨⟨hx_0, hx_1⟩, ⟨hx_2, hx_3⟩, hx_4⟩ := T
      have hlx := L; clear L
      obtain ⟨hnx0, hnx1, hkx1, hnx2, hkx2⟩ := ap0 hlx
      have hB := hB'; clear hB'
      have hsz := hB.size
      go_wp2
      refine bodyPost_ret (v := .tuple #[.string O, .int .i64 0]) (by simp [results, Tryz.results48, go_sem, HE.out]) rfl ⟨rfl, by go_grown⟩
  · rw [e1, e2]
    generalize txB t = S at *
    clear e1 e2 ht
    go_enter Tryz.func48, Tryz.ntmps48
    go_wp2
    refine bodyPost_ret (v := .tuple #[.string ⟨#[46, 46]⟩, .int .i64 0]) (by simp [results, Tryz.results48, go_sem]) rfl ⟨rfl, by go_grown⟩
  · rw [e1, e2]
    generalize txB t = S at *
    clear e1 e2 ht
    go_enter Tryz.func48, Tryz.ntmps48
    go_wp2
    refine bodyPost_ret (v := .tuple #[.string ⟨#[10]⟩, .int .i64 0]) (by simp [results, Tryz.results48, go_sem]) rfl ⟨rfl, by go_grown⟩
  · rw [e1, e2]
    have d1 : (k == 1) = false := beq_eq_false_iff_ne.2 h1
    have d2 : (k == 2) = false := beq_eq_false_iff_ne.2 h2
    have d3 : (k == 3) = false := beq_eq_false_iff_ne.2 h3
    have d4 : (k == 4) = false := beq_eq_false_iff_ne.2 h4
    generalize txB t = S at *
    clear e1 e2 h1 h2 h3 h4 ht
    go_enter Tryz.func48, Tryz.ntmps48
    go_wp2
    refine bodyPost_ret (v := .tuple #[.string ⟨#[]⟩, .int .i64 15]) (by simp [results, Tryz.results48, go_sem]) rfl ⟨rfl, by go_grown⟩
end Go.Proofs.YtjcmblbnbpikfaaGreatDoor
