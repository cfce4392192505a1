/-
  Layer 6: a token's text, by lists; by the program.
-/
import Derived.Test.YtbnmibkmddhniaaDoorHexf
import Derived.Test.YtbnmibkmddhniaaDoorProg2
import Derived.Test.YtbnmibkmddhniaaDoorShelf
set_option linter.unusedSimpArgs false
set_option linter.unusedVariables false
namespace Go.Proofs.YtbnmibkmddhniaaDoor
open Go.RowKit Go.PlainAid

def wordB (t : List UInt8) : Bool := !t.isEmpty && t.all isLet
def widthN (n : Int) : Nat := if 255 < n then 4 else 2
def textE (k : Int) (t : List UInt8) (n : Int) : Int := if k = 1 then (if wordB t then 0 else 11) else if k = 2 then (if n < 0 ∨ 65535 < n then 10 else 0) else if k = 3 ∨ k = 4 then 0 else 15
def textL (k : Int) (t : List UInt8) (n : Int) : List UInt8 := if k = 1 then (if wordB t then t else []) else if k = 2 then (if n < 0 ∨ 65535 < n then [] else 36 :: lowsL n.toNat (widthN n)) else if k = 3 then [46, 46] else if k = 4 then [10] else []
theorem textL_len (k : Int) (t : List UInt8) (n : Int) (ht : t.length ≤ 100) : (textL k t n).length ≤ 100 := by
  unfold textL
  split
  · split
    · exact ht
    · simp
  · split
    · split
      · simp
      · rw [List.length_cons, lows_len]; unfold widthN; split <;> omega
    · split
      · simp
      · split <;> simp
theorem lows_pad (n k : Nat) (h : n < 16 ^ k) : lowsL n (k + 1) = 48 :: lowsL n k := by
  show lowL (n / 16 ^ k % 16) :: lowsL n k = _
  rw [Nat.div_eq_of_lt h]
  rfl
theorem lows_pads (n k : Nat) (h : n < 16 ^ k) : ∀ c, lowsL n (k + c) = List.replicate c 48 ++ lowsL n k
  | 0 => rfl
  | c + 1 => by
    rw [← Nat.add_assoc, lows_pad n (k + c) (Nat.lt_of_lt_of_le h (Nat.pow_le_pow_right (by omega) (by omega))), lows_pads n k h c, List.replicate_succ]
    rfl
theorem repeat_is : ∀ c, Lib.repeatL [48] c = List.replicate c 48 := by
  intro c
  induction c with
  | zero => rfl
  | succ c ih =>
    rw [List.replicate_succ, ← ih]
    rfl
theorem repeat_c (c : Nat) (hc : c ≤ 10) (w : World) : Calls Tryd.prog 32 #[.string ⟨#[48]⟩, .int .i64 (c : Int)] w fun e w' => e = .returned (.string (txB (List.replicate c 48))) ∧ Below w.heap.size w w' := by
  have h := Tryd.strings_Repeat ⟨#[48]⟩ c w (by omega) (by show 1 * c ≤ _; omega)
  rw [show (ByteArray.mk #[48]).data.toList = [48] from rfl, repeat_is] at h
  exact h
set_option maxRecDepth 100000 in
set_option maxHeartbeats 1000000 in
theorem printd_c (n d : Nat) (hd : 1 ≤ d ∧ d ≤ widthN n) (h1 : d = 1 ∨ 16 ^ (d - 1) ≤ n) (h2 : n < 16 ^ d) (hn : n ≤ 65535) (w : World) (hT : w.cell? ⟨5, 15, none⟩ = some (.int .u8 4)) :
    Calls Tryd.prog 19 #[.int .i64 (n : Int)] w fun e w' => e = .returned (.string (txB (36 :: lowsL n (widthN n)))) ∧ Below w.heap.size w w' := by
  have HF := Lib.hid (fmt_c n w hT (by omega) (d - 1) (by rcases h1 with h | h; exact .inl (by omega); exact .inr h) (by rw [Nat.sub_add_cancel hd.1]; exact h2))
  rw [Nat.sub_add_cancel hd.1] at HF
  have hw4 : widthN n ≤ 4 := by unfold widthN; split <;> omega
  have HRp := Lib.hid (repeat_c (widthN n - d) (by omega))
  have hz : (txB (lowsL n d)).size = d := by rw [txB_size, lows_len]
  have hpads := lows_pads n d h2 (widthN n - d)
  rw [show d + (widthN n - d) = widthN n from by omega] at hpads
  obtain ⟨O, hO⟩ : ∃ O, txB (36 :: lowsL n (widthN n)) = O := ⟨_, rfl⟩
  rw [hO]
  obtain ⟨A, hA⟩ : ∃ A, txB (List.replicate (widthN n - d) 48) = A := ⟨_, rfl⟩
  rw [hA] at HRp
  obtain ⟨B, hB⟩ : ∃ B, txB (lowsL n d) = B := ⟨_, rfl⟩
  rw [hB] at HF hz
  have HO := Lib.hid (show ({ data := #[36] } : ByteArray) ++ A ++ B = O from by
    rw [← hO, ← hA, ← hB, hpads]
    show txB [36] ++ txB _ ++ txB _ = _
    rw [txB_append, txB_append]
    rfl)
  have hAz : A.size ≤ 10 := by rw [← hA, txB_size, List.length_replicate]; omega
  have hBz : B.size ≤ 10 := by omega
  have hcw : ((widthN n - d : Nat) : Int) = ((widthN n : Nat) : Int) - (B.size : Int) := by omega
  rw [hcw] at HRp
  clear hO hA hB hpads hz h1 h2 hd hT hcw
  by_cases hbig : 255 < (n : Int)
  · have hdd : decide (255 < (n : Int)) = true := decide_eq_true hbig
    have e4 : widthN n = 4 := by unfold widthN; rw [if_pos hbig]
    rw [e4, show ((4 : Nat) : Int) = 4 from rfl] at HRp
    generalize (n : Int) = N at *
    clear hbig hn hw4 e4
    go_enter Tryd.func19, Tryd.ntmps19
    go_wp2_with fail
    ((with_reducible refine (HF.out).mono ?_); rintro _ u ⟨rfl, hb⟩)
    have hz := hb.size
    (try simp only [World.size_alloc, World.size_setCell, World.size_drew] at hz)
    have hB' : Below w.heap.size w u := by
        refine kb ?_ hb
        go_grown
    clear hb hz
    have hB := hB'; clear hB'
    have hsz := hB.size
    go_wp2_with fail
    ((with_reducible refine (HRp.out _).mono ?_); rintro _ u2 ⟨rfl, hb⟩)
    have hz := hb.size
    (try simp only [World.size_alloc, World.size_setCell, World.size_drew] at hz)
    have hB' : Below w.heap.size w u2 := by
        refine kb ?_ hb
        go_grown
    clear hB hsz
    clear hb hz
    have hB := hB'; clear hB'
    have hsz := hB.size
    go_wp2
    go_ret
    exact ⟨by show Ending.returned (.string _) = _; rw [HO.out], by go_grown⟩
  · have hdd : decide (255 < (n : Int)) = false := decide_eq_false hbig
    have e4 : widthN n = 2 := by unfold widthN; rw [if_neg hbig]
    rw [e4, show ((2 : Nat) : Int) = 2 from rfl] at HRp
    generalize (n : Int) = N at *
    clear hbig hn hw4 e4
    go_enter Tryd.func19, Tryd.ntmps19
    go_wp2_with fail
    ((with_reducible refine (HF.out).mono ?_); rintro _ u3 ⟨rfl, hb⟩)
    have hz := hb.size
    (try simp only [World.size_alloc, World.size_setCell, World.size_drew] at hz)
    have hB' : Below w.heap.size w u3 := by
        refine kb ?_ hb
        go_grown
    clear hb hz
    have hB := hB'; clear hB'
    have hsz := hB.size
    go_wp2_with fail
    ((with_reducible refine (HRp.out _).mono ?_); rintro _ u4 ⟨rfl, hb⟩)
    have hz := hb.size
    (try simp only [World.size_alloc, World.size_setCell, World.size_drew] at hz)
    have hB' : Below w.heap.size w u4 := by
        refine kb ?_ hb
        go_grown
    clear hB hsz
    clear hb hz
    have hB := hB'; clear hB'
    have hsz := hB.size
    go_wp2
    go_ret
    exact ⟨by show Ending.returned (.string _) = _; rw [HO.out], by go_grown⟩
theorem printn_c (n : Nat) (hn : n ≤ 65535) (w : World) (hT : w.cell? ⟨5, 15, none⟩ = some (.int .u8 4)) :
    Calls Tryd.prog 19 #[.int .i64 (n : Int)] w fun e w' => e = .returned (.string (txB (36 :: lowsL n (widthN n)))) ∧ Below w.heap.size w w' := by
  by_cases h1 : n < 16
  · exact printd_c n 1 (by unfold widthN; split <;> omega) (.inl rfl) (by omega) hn w hT
  · by_cases h2 : n < 256
    · exact printd_c n 2 (by unfold widthN; split <;> omega) (.inr (by simp; omega)) (by omega) hn w hT
    · by_cases h3 : n < 4096
      · exact printd_c n 3 (by unfold widthN; split <;> omega) (.inr (by simp; omega)) (by omega) hn w hT
      · exact printd_c n 4 (by unfold widthN; split <;> omega) (.inr (by simp; omega)) (by omega) hn w hT
set_option maxRecDepth 100000 in
set_option maxHeartbeats 1000000 in
theorem isWord_c (t : List UInt8) (ht : t.length ≤ 100) (w : World) : Calls Tryd.prog 18 #[.string (txB t)] w fun e w' => e = .returned (.bool (wordB t)) ∧ Below w.heap.size w w' := by
  obtain ⟨R, hR⟩ : ∃ R, wordB t = R := ⟨_, rfl⟩
  rw [hR]
  have HR := Lib.hid hR
  have HL := Lib.hid ht
  have HZ := Lib.hid (txB_size t)
  have htl := txB_toList t
  clear hR ht
  generalize hS : txB t = S at *
  have HS := Lib.hid hS
  have HTl := Lib.hid htl
  clear hS htl
  go_enter Tryd.func18, Tryd.ntmps18
  go_wp2
  go_loopw [6] (fun i wr => ∃ (k : Nat) (K : Int), i = .int .i64 K ∧ Hid (K = k ∧ k ≤ t.length ∧ (t.take k).all isLet = true) ∧ Below w.heap.size w wr) (fun i _ => t.length - (intOf i).toNat)
  case atStart => exact ⟨0, 0, rfl, Lib.hid ⟨rfl, by omega, rfl⟩, Below.refl _ _⟩
  case round =>
    obtain ⟨k, K, rfl, HQ, hB⟩ := hrel
    obtain ⟨q1, q2, q3⟩ := HQ.out
    have hz := HZ.out
    have hl := HL.out
    by_cases hlt : k < t.length
    · have hd : decide (K < (S.size : Int)) = true := decide_eq_true (by omega)
      have q := fun W => by have := ix_l t k hlt K q1 W; rw [HS.out] at this; exact this
      have w3 : IntKind.i64.wrap (K + 1) = K + 1 := IntWalk.i64_in _ (by omega)
      have HI := Lib.hid (fun W => in_letters_c (at8 t k) W)
      have hall : t.all isLet = true → isLet (at8 t k) = true := fun h => List.all_eq_true.1 h _ (by rw [at8_get t k hlt]; exact List.getElem_mem hlt)
      have hB0 := hB
      have hnr := hB.size
      have hbr : Below wr.heap.size wr wr := Below.refl _ _
      cases e : isLet (at8 t k)
      · have HF := Lib.hid (show R = false from by
          rw [← HR.out]
          unfold wordB
          cases h : t.all isLet
          · simp
          · rw [hall h] at e; cases e)
        rw [e] at HI
        generalize bI (at8 t k) = c at *
        clear q1 q2 q3 hz hl hlt HQ hall e hB
        go_wp2_with fail
        ((with_reducible refine (HI.out _).mono ?_); rintro _ u5 ⟨rfl, hb⟩)
        have hz := hb.size
        (try simp only [World.size_alloc, World.size_setCell, World.size_drew] at hz)
        have hB' : Below wr.heap.size wr u5 := by
            refine kb ?_ hb
            go_grown
        clear hb hz
        have hB := hB'; clear hB'
        have hsz := hB.size
        go_wp2
        go_ret
        exact ⟨ret_bool HF.out.symm, hB0.trans (Below.mono hB hnr)⟩
      · have HN := Lib.hid (show K + 1 = ((k + 1 : Nat) : Int) ∧ k + 1 ≤ t.length ∧ (t.take (k + 1)).all isLet = true ∧ K = k ∧ k < t.length from ⟨by omega, by omega, by
          rw [List.take_succ_eq_append_getElem hlt, List.all_append, q3, ← at8_get t k hlt]
          simp [e], q1, hlt⟩)
        rw [e] at HI
        generalize bI (at8 t k) = c at *
        clear q1 q2 q3 hz hl hlt HQ hall e hB
        go_wp2_with fail
        ((with_reducible refine (HI.out _).mono ?_); rintro _ u6 ⟨rfl, hb⟩)
        have hz := hb.size
        (try simp only [World.size_alloc, World.size_setCell, World.size_drew] at hz)
        have hB' : Below wr.heap.size wr u6 := by
            refine kb ?_ hb
            go_grown
        clear hb hz
        have hB := hB'; clear hB'
        have hsz := hB.size
        go_wp2
        go_roundw
        case rel => exact ⟨k + 1, K + 1, rfl, Lib.hid ⟨HN.out.1, HN.out.2.1, HN.out.2.2.1⟩, hB0.trans (Below.mono hB hnr)⟩
        case measure => have := HN.out.2.2.2; simp only [intOf]; omega
    · have hd : decide (K < (S.size : Int)) = false := decide_eq_false (by omega)
      have hall : t.all isLet = true := by rw [List.take_of_length_le (by omega)] at q3; exact q3
      have HF := Lib.hid (show R = !t.isEmpty from by
        rw [← HR.out]
        unfold wordB
        rw [hall, Bool.and_true])
      clear q1 q2 q3 hz hl hlt HQ hall
      cases ht : t with
      | nil =>
        have h1 : S.toList = [] := by rw [HTl.out, ht]
        rw [ht] at HF
        go_wp2
        go_ret
        exact ⟨by rw [HF.out]; rfl, hB⟩
      | cons x r =>
        have h1 : (S.toList == []) = false := by rw [HTl.out, ht]; rfl
        have h2 : S.toList.isEmpty = false := by rw [HTl.out, ht]; rfl
        rw [ht] at HF
        go_wp2
        go_ret
        exact ⟨by rw [HF.out]; rfl, hB⟩
end Go.Proofs.YtbnmibkmddhniaaDoor
