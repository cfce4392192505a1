/- Layer 6, the program: the -/
import Derived.Test.YtjcmblbnbpikfaaGreatDoorIn
import Derived.Test.YtjcmblbnbpikfaaGreatDoorRef2
import Derived.Test.YtjcmblbnbpikfaaGreatDoorLines
import Derived.Test.YtjcmblbnbpikfaaGreatDoorShelf
import Derived.Laws.EntriesVeiled
set_option linter.unusedSimpArgs false
set_option linter.unusedVariables false
set_option maxRecDepth 100000
namespace Go.Proofs.YtjcmblbnbpikfaaGreatDoor
open Lib (hid)
open Go.RowKit Go.PlainAid

abbrev ptr0 (b : Nat) : Value := .pointer (some ⟨b, 0, none⟩)
theorem nextp_c (l : List UInt8) (A B k : Nat) (hk : k ≤ l.length) (K : Int) (hK : K = k) (w : World) (hA : w.cell? ⟨A, 0, none⟩ = some (.int .i64 K)) (hB : w.cell? ⟨B, 0, none⟩ = some (.string (txB l))) :
  Calls Tryz.prog 86 #[ptr0 A, ptr0 B] w fun e w' => e = .returned (.int .u8 (bI (at8 l k))) ∧ w = w' := by
 have hz := txB_size l
 by_cases hlt : k < l.length
 ·have hd : (K == ((txB l).size : Int)) = false := beq_eq_false_iff_ne.2 (by omega)
  have q := ix_l l k hlt K hK
  generalize bI (at8 l k) = c at *
  generalize txB l = S at *
  clear hK hk hz hlt
  go_enter Tryz.func86, Tryz.ntmps86
  go_wp2
  go_ret
  exact ⟨rfl, rfl⟩
 ·have hd : (K == ((txB l).size : Int)) = true := beq_iff_eq.2 (by omega)
  rw [at8_end l k (by omega), show bI 10 = 10 from rfl]
  generalize txB l = S at *
  clear hK hk hz hlt
  go_enter Tryz.func86, Tryz.ntmps86
  go_wp2
  go_ret
  exact ⟨rfl, rfl⟩
theorem grown_step {w wr u : World} {A : Nat} (hg : w.grownBy wr (some A)) (hb : Below wr.heap.size wr u) : w.grownBy u (some A) :=
 ⟨hb.os.trans hg.os, hb.tape.trans hg.tape, hb.output.trans hg.output, Nat.le_trans hg.size hb.size, fun k hk hne => (hb.block k (Nat.lt_of_lt_of_le hk hg.size)).trans (hg.block k hk hne)⟩
theorem grown_set {w u : World} {A o : Nat} {v : Value} (hg : w.grownBy u (some A)) : w.grownBy (u.setCell ⟨A, o, none⟩ v) (some A) := by
 have h := (Below.refl 0 u).setCell (p := ⟨A, o, none⟩) (Nat.zero_le _) v
 exact ⟨h.os.trans hg.os, h.tape.trans hg.tape, h.output.trans hg.output, Nat.le_trans hg.size h.size, fun k hk hne => (Below.heap_setCell u _ _ k (fun e => hne (by rw [e]))).trans (hg.block k hk hne)⟩
set_option maxHeartbeats 2000000 in
theorem takep_c (l : List UInt8) (hl : l.length ≤ 100000) (ms : List UInt8) (p : UInt8 → Bool) (ha : ∀ m ∈ ms, m.toNat < 128) (hms : ms.length ≤ 100) (hp : ∀ b, ms.contains b = p b) (hp10 : p 10 = false) (A B N k0 : Nat) (hAB : B ≠ A) (hAN : N ≠ A) (hk : k0 ≤ l.length) (K0 : Int) (hK0 : K0 = k0)
  (w : World) (hA : w.cell? ⟨A, 0, none⟩ = some (.int .i64 K0)) (fA : w.frozen? ⟨A, 0, none⟩ = false) (hB : w.cell? ⟨B, 0, none⟩ = some (.string (txB l))) (hN : w.cell? ⟨N, 0, none⟩ = some (.func (.func 86) #[] #[ptr0 A, ptr0 B])) :
  Calls Tryz.prog 87 #[.string (txB ms), ptr0 A, ptr0 N, ptr0 B] w fun e w' => e = .returned (.string (txB ((l.take (runL p l k0)).drop k0))) ∧ w.grownBy w' (some A) ∧ w'.cell? ⟨A, 0, none⟩ = some (.int .i64 (runL p l k0 : Nat)) ∧ w'.frozen? ⟨A, 0, none⟩ = false := by
 obtain ⟨R, hR⟩ : ∃ R, runL p l k0 = R := ⟨_, rfl⟩
 have hR1 := runL_ge p l k0
 have hR2 := runL_le p l k0 hk
 rw [hR] at hR1 hR2 ⊢
 have HR := hid (And.intro hR (And.intro hR1 hR2))
 have HI := hid (fun b W => in_c ms ha hms b W)
 have HP := hid hp
 have H10 := hid hp10
 have HL := hid hl
 have HK := hid (And.intro hk hK0)
 have Hne := hid (And.intro hAB hAN)
 have hlA := klt hA
 have hlB := klt hB
 have hlN := klt hN
 have hn1 : ¬ (B = A) := hAB
 have hn2 : ¬ (N = A) := hAN
 have hn3 : ¬ (A = B) := fun h => hAB h.symm
 have hn4 : ¬ (A = N) := fun h => hAN h.symm
 clear hR hR1 hR2 ha hms hp hp10 hl hk hK0 hAB hAN
 generalize txB ms = MS at *
 go_enter Tryz.func87, Tryz.ntmps87
 go_wp2
 go_loopg [11] (l.length + 1 - k0) (fun g s11 wr => ∃ (k : Nat) (K : Int), g = l.length + 1 - k ∧ Hid (K = k ∧ k ≤ l.length ∧ runL p l k = R) ∧ wr.cell? ⟨A, 0, none⟩ = some (.int .i64 K) ∧ wr.frozen? ⟨A, 0, none⟩ = false ∧ Hid (w.grownBy wr (some A)))
 case atStart => exact ⟨k0, K0, rfl, hid ⟨HK.out.2, HK.out.1, HR.out.1⟩, hA, fA, hid ⟨rfl, rfl, rfl, Nat.le_refl _, fun _ _ _ => rfl⟩⟩
 case round =>
  obtain ⟨k, K, rfl, HQ, hA', fA', HG⟩ := hrel
  obtain ⟨q1, q2, q3⟩ := HQ.out
  have hsz := HG.out.size
  have hB' := kg HG.out hn1 hB
  have hN' := kg HG.out hn2 hN
  have HX := hid (nextp_c l A B k q2 K q1 wr hA' hB')
  have HJ := hid (HI.out (at8 l k))
  rw [HP.out] at HJ
  have hl := HL.out
  cases e : p (at8 l k)
  ·obtain rfl : k = R := by
    rw [← q3]
    by_cases hlt : k < l.length
    ·exact (runL_no p l k hlt (by rw [← at8_get l k hlt]; exact e)).symm
    ·exact (runL_stop p l k (by omega)).symm
   rw [e] at HJ
   have hsl : ∀ W, (Instr.slice 9 (.string (txB l)) (some (.int .i64 K0)) (some (.int .i64 K)) none).run Tryz.prog W = .ok (.string (txB ((l.take k).drop k0))) W := fun W => by
    have h1 := HK.out
    have h2 := HR.out.2
    rw [run_slice_string _ _ _ _ _ _ _ Tryz.underlying9 (by omega) (by omega) (by rw [txB_size]; omega), q1, h1.2, Int.toNat_natCast, Int.toNat_natCast, txB_extract]
   have HQ1 := hid q1
   generalize hT : txB ((l.take k).drop k0) = T at *
   have HT := hid hT
   clear hT
   generalize bI (at8 l k) = c at *
   generalize txB l = S at *
   have HG1 := hid HG
   clear q1 q2 q3 e hl HG HQ
   go_wp2_with fail
   refine (HX.out).mono ?_
   rintro _ _ ⟨rfl, rfl⟩
   go_wp2_with fail
   refine (HJ.out _).mono ?_
   rintro _ u ⟨rfl, hb⟩
   have hA2 := kc hb hA'
   have hB2 := kc hb hB'
   have hf2 := kfz hb (klt hA') fA'
   have HB2 := hid hb
   clear hb
   go_wp2
   go_ret
   exact ⟨by show Ending.returned (.string T) = _; rw [HT.out], grown_step HG1.out.out HB2.out, by rw [hA2, HQ1.out], hf2⟩
  ·have hlt : k < l.length := by
    refine Nat.lt_of_not_le fun h => ?_
    rw [at8_end l k h, H10.out] at e
    cases e
   have HN := hid (show K + 1 = ((k + 1 : Nat) : Int) ∧ k + 1 ≤ l.length ∧ runL p l (k + 1) = R from ⟨by omega, by omega, by rw [← q3, runL_yes p l k hlt (by rw [← at8_get l k hlt]; exact e)]⟩)
   have w3 : IntKind.i64.wrap (K + 1) = K + 1 := IntWalk.i64_in _ (by omega)
   rw [e] at HJ
   have HQ1 := hid (And.intro q1 hlt)
   generalize bI (at8 l k) = c at *
   generalize txB l = S at *
   have HG1 := hid HG
   clear q1 q2 q3 e hl HG HQ hlt
   go_wp2_with fail
   refine (HX.out).mono ?_
   rintro _ _ ⟨rfl, rfl⟩
   go_wp2_with fail
   refine (HJ.out _).mono ?_
   rintro _ u ⟨rfl, hb⟩
   have hA2 := kc hb hA'
   have hB2 := kc hb hB'
   have hf2 := kfz hb (klt hA') fA'
   have HB2 := hid hb
   clear hb
   go_wp2
   go_roundg (l.length + 1 - (k + 1))
   case measure => have := HQ1.out; omega
   case rel => exact ⟨k + 1, K + 1, rfl, HN, by go_simp, by go_simp, hid (grown_set (grown_step HG1.out.out HB2.out))⟩
theorem hexes_at (b : UInt8) (h : digN b < 16) : Lib.indexByte hexesL b = (digN b : Int) := by
 have := all_bytes (fun b => decide (digN b < 16) == false || decide (Lib.indexByte hexesL b = (digN b : Int))) (by decide +kernel) b
 simpa [h] using this

theorem bI_back (b : UInt8) : (bI b).toNat.toUInt8 = b := by
 unfold bI
 rw [Int.toNat_natCast]
 simp
theorem idx_c (b : UInt8) (h : digN b < 16) (w : World) : Calls Tryz.prog 102 #[.string ⟨#[48, 49, 50, 51, 52, 53, 54, 55, 56, 57, 97, 98, 99, 100, 101, 102]⟩, .int .u8 (bI b)] w fun e w' => e = .returned (.int .i64 (digN b : Int)) ∧ w = w' := by
 refine (Tryz.strings_IndexByte (txB hexesL) (bI b) w).mono ?_
 rintro e w' ⟨rfl, rfl⟩
 refine ⟨ret_i64 ?_, rfl⟩
 rw [bI_back, show (txB hexesL).data.toList = hexesL from by simp [txB], hexes_at b h]
theorem numV_all (base : Nat) : ∀ (t : List UInt8) (n : Int), (∀ b ∈ t, isDig base b = true) → ∀ r, (∀ b, r[0]? = some b → isDig base b = false) → numV base (t ++ r) n = numV base t n
 | [], n, _, r, h => by
  cases r with
  | nil => rfl
  | cons b r =>
   show (if _ then _ else _) = _
   rw [h b rfl]
   rfl
 | b :: t, n, ht, r, h => by
  show (if _ then _ else _) = (if _ then _ else _)
  rw [ht b (by simp), if_pos rfl, if_pos rfl]
  exact numV_all base t _ (fun c hc => ht c (by simp [hc])) r h
theorem run_digits (base : Nat) (l : List UInt8) (k : Nat) (hk : k ≤ l.length) : (∀ b ∈ (l.take (runL (isDig base) l k)).drop k, isDig base b = true) ∧ numV base ((l.take (runL (isDig base) l k)).drop k) 0 = numV base (l.drop k) 0 := by
 have e : (l.take (runL (isDig base) l k)).drop k = (l.drop k).takeWhile (isDig base) := by
  unfold runL
  rw [List.drop_take, show k + ((l.drop k).takeWhile (isDig base)).length - k = ((l.drop k).takeWhile (isDig base)).length from by omega]
  exact (List.prefix_iff_eq_take.1 (List.takeWhile_prefix _)).symm
 rw [e]
 refine ⟨fun b hb => ?_, ?_⟩
 ·exact (List.all_takeWhile (p := isDig base) (l := l.drop k) |> List.all_eq_true.1) b hb
 ·conv => rhs; rw [← List.takeWhile_append_dropWhile (p := isDig base) (l := l.drop k)]
  refine (numV_all base _ 0 (fun b hb => (List.all_takeWhile (p := isDig base) (l := l.drop k) |> List.all_eq_true.1) b hb) _ fun b hb => ?_).symm
  generalize l.drop k = m at *
  clear e
  induction m with
  | nil => cases hb
  | cons c m ih =>
   cases hc : isDig base c
   ·rw [List.dropWhile_cons_of_neg (by rw [hc]; simp)] at hb
    simp at hb
    rw [← hb]; exact hc
   ·rw [List.dropWhile_cons_of_pos hc] at hb
    exact ih hb
set_option maxHeartbeats 2000000 in
theorem parsen_c (t : List UInt8) (ht : t.length ≤ 100000) (base : Nat) (hb : base ≤ 16) (hd : ∀ b ∈ t, isDig base b = true) (w : World) : Calls Tryz.prog 88 #[.string (txB t), .int .i64 (base : Int)] w fun e w' => e = .returned (.int .i64 (numV base t 0)) ∧ w = w' := by
 obtain ⟨V, hV⟩ : ∃ V, numV base t 0 = V := ⟨_, rfl⟩
 rw [hV]
 have HV := hid hV
 have HL := hid ht
 have Hb := hid hb
 have Hd := hid hd
 have HZ := hid (txB_size t)
 clear hV ht hb hd
 generalize hS : txB t = S at *
 have HS := hid hS
 clear hS
 generalize hB : (base : Int) = B at *
 have HB := hid hB
 clear hB
 go_enter Tryz.func88, Tryz.ntmps88
 go_wp2
 go_loop [5, 9] (fun n i => ∃ (k : Nat) (K N : Int), i = .int .i64 K ∧ n = .int .i64 N ∧ Hid (K = k ∧ k ≤ t.length ∧ 0 ≤ N ∧ N ≤ 65536 ∧ numV base (t.drop k) N = V)) (fun n i => t.length - (intOf i).toNat)
 case atStart => exact ⟨0, 0, 0, rfl, rfl, hid ⟨rfl, by omega, by omega, by omega, HV.out⟩⟩
 case round =>
  obtain ⟨k, K, N, rfl, rfl, HQ⟩ := hrel
  obtain ⟨q1, q2, q3, q4, q5⟩ := HQ.out
  have hz := HZ.out
  by_cases hlt : k < t.length
  ·have hd : decide (K < (S.size : Int)) = true := decide_eq_true (by omega)
   have q := fun W => by have := ix_l t k hlt K q1 W; rw [HS.out] at this; exact this
   have e : isDig base (at8 t k) = true := Hd.out _ (by rw [at8_get t k hlt]; exact List.getElem_mem hlt)
   have g1 := numV_yes base t k N hlt e
   have hl := HL.out
   have hb16 := Hb.out
   have hB := HB.out
   have hD : digN (at8 t k) < 16 := by have := of_decide_eq_true e; omega
   have HI := hid (fun w => idx_c (at8 t k) hD w)
   have hN0 : 0 ≤ N * B := Int.mul_nonneg q3 (by omega)
   have hN1 : N * B ≤ 65536 * 16 := Int.mul_le_mul q4 (by omega) (by omega) (by omega)
   have w1 : IntKind.i64.wrap (N * B) = N * B := IntWalk.i64_in _ (by omega)
   have w2 : IntKind.i64.wrap (N * B + (digN (at8 t k) : Int)) = N * B + (digN (at8 t k) : Int) := IntWalk.i64_in _ (by omega)
   have w3 : IntKind.i64.wrap (K + 1) = K + 1 := IntWalk.i64_in _ (by omega)
   have HN := hid (show K + 1 = ((k + 1 : Nat) : Int) ∧ k + 1 ≤ t.length ∧ 0 ≤ min 65536 (N * B + (digN (at8 t k) : Int)) ∧ min 65536 (N * B + (digN (at8 t k) : Int)) ≤ 65536 ∧ numV base (t.drop (k + 1)) (min 65536 (N * B + (digN (at8 t k) : Int))) = V from
    ⟨by omega, by omega, by omega, by omega, by rw [← q5, g1, hB]⟩)
   have HQ1 := hid (And.intro q1 hlt)
   generalize (digN (at8 t k) : Int) = D at *
   generalize bI (at8 t k) = c at *
   clear g1 e q1 q2 q3 q4 q5 hz hlt hl hb16 hB hN0 hN1 hD
   go_wp2_with (go_at_call 102; (with_reducible refine (HI.out _).mono ?_); rintro _ _ ⟨rfl, rfl⟩)
   go_round
   case rel => exact ⟨k + 1, K + 1, _, rfl, rfl, by rw [Int.min_comm]; exact HN⟩
   case measure => have := HQ1.out; simp only [intOf]; omega
  ·have hd : decide (K < (S.size : Int)) = false := decide_eq_false (by omega)
   have HF := hid (show N = V from by rw [← q5, numV_stop base t k N (by omega)])
   clear q1 q2 q3 q4 q5 hz hlt HQ
   go_wp2
   go_ret
   exact ⟨ret_i64 HF.out, rfl⟩
end Go.Proofs.YtjcmblbnbpikfaaGreatDoor
