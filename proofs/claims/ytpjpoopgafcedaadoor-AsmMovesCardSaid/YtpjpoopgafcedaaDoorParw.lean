/-
  Layer 5, the program: the number of a text behind a name, in one way of writing.
-/
import Derived.Test.YtpjpoopgafcedaaDoorUintp
set_option linter.unusedSimpArgs false
set_option linter.unusedVariables false
namespace Go.Proofs.YtpjpoopgafcedaaDoor
open Go.RowKit Go.PlainAid

theorem numL_lt : ∀ (l : List UInt8) (a : Int), 0 ≤ a → numL l a < (a + 1) * 16 ^ l.length ∧ -1 ≤ numL l a
  | [], a, h => by unfold numL; simp; omega
  | c :: r, a, h => by
    unfold numL
    have hd := digH_hi (c.toNat : Int)
    have hp : (0 : Int) < 16 ^ r.length := Int.pow_pos (by omega)
    by_cases hn : digH (c.toNat : Int) < 0
    · rw [if_pos hn]
      refine ⟨?_, by omega⟩
      have : 0 ≤ (a + 1) * 16 ^ (c :: r).length := Int.mul_nonneg (by omega) (Int.le_of_lt (Int.pow_pos (by omega)))
      omega
    · rw [if_neg hn]
      obtain ⟨h1, h2⟩ := numL_lt r (16 * a + digH (c.toNat : Int)) (by omega)
      refine ⟨Int.lt_of_lt_of_le h1 ?_, h2⟩
      rw [List.length_cons, Int.pow_succ]
      calc (16 * a + digH (c.toNat : Int) + 1) * 16 ^ r.length ≤ (16 * (a + 1)) * 16 ^ r.length := Int.mul_le_mul_of_nonneg_right (by omega) (Int.le_of_lt hp)
        _ = (a + 1) * (16 ^ r.length * 16) := by rw [Int.mul_comm 16 (a + 1), Int.mul_assoc, Int.mul_comm 16]
theorem numL_four (l : List UInt8) (h : l.length ≤ 4) : numL l 0 < 65536 := by
  have h1 := (numL_lt l 0 (by omega)).1
  have : (16 : Int) ^ l.length ≤ 16 ^ 4 := by
    rcases (show l.length = 0 ∨ l.length = 1 ∨ l.length = 2 ∨ l.length = 3 ∨ l.length = 4 by omega) with e | e | e | e | e <;> rw [e] <;> decide
  omega
/-- The number of a text, in one way of writing; -1: it is not written so. -/
def parW (b : List UInt8) (d : Nat) (a l : List UInt8) : Int :=
  if (l.length == b.length + d + a.length) && (Lib.hasPrefix l b && Lib.hasSuffix l a) then (if d = 0 then 0 else numL ((l.drop b.length).take d) 0) else -1
theorem hasp_c (l p : List UInt8) (w : World) : Calls Tryd.prog 52 #[.string (txB l), .string (txB p)] w fun e w' => e = .returned (.bool (Lib.hasPrefix l p)) ∧ w = w' := by
  refine (Tryd.strings_HasPrefix (txB l) (txB p) w).mono ?_
  rintro e w' ⟨rfl, rfl⟩
  exact ⟨by simp, rfl⟩
theorem hass_c (l p : List UInt8) (hl : l.length ≤ 1000) (w : World) : Calls Tryd.prog 53 #[.string (txB l), .string (txB p)] w fun e w' => e = .returned (.bool (Lib.hasSuffix l p)) ∧ w = w' := by
  refine (Tryd.strings_HasSuffix (txB l) (txB p) w (by rw [txB_size]; omega)).mono ?_
  rintro e w' ⟨rfl, rfl⟩
  exact ⟨by simp, rfl⟩
set_option maxRecDepth 100000 in
set_option maxHeartbeats 4000000 in
theorem parw_c (b a l : List UInt8) (d : Nat) (hd : d ≤ 4) (hb : b.length ≤ 10) (ha : a.length ≤ 10) (hl : l.length ≤ 9223372036854775807) (w : World) (hE : LaidE w) :
    Calls Tryd.prog 34 #[arV b d a, .string (txB l)] w fun e w' => e = .returned (.tuple #[.int .i64 (if parW b d a l < 0 then 0 else parW b d a l), .bool (decide (0 ≤ parW b d a l))]) ∧ Below w.heap.size w w' := by
  have hV : parW b d a l = if (l.length == b.length + d + a.length) && (Lib.hasPrefix l b && Lib.hasSuffix l a) then (if d = 0 then 0 else numL ((l.drop b.length).take d) 0) else -1 := rfl
  have z1 := txB_size b
  have z2 := txB_size a
  have z3 := txB_size l
  have w1 : IntKind.i64.wrap ((b.length : Int) + (d : Int)) = (b.length : Int) + (d : Int) := IntWalk.i64_in _ (by omega)
  have w2 : IntKind.i64.wrap ((b.length : Int) + (d : Int) + (a.length : Int)) = (b.length : Int) + (d : Int) + (a.length : Int) := IntWalk.i64_in _ (by omega)
  have hle : ((l.length : Int) != (b.length : Int) + (d : Int) + (a.length : Int)) = !(l.length == b.length + d + a.length) := by
    unfold bne
    congr 1
    rw [Bool.eq_iff_iff, beq_iff_eq, beq_iff_eq]
    omega
  generalize hX : (l.length == b.length + d + a.length) = X at *
  cases X
  · have hv : parW b d a l = -1 := by rw [hV]; rfl
    rw [hv]
    unfold arV
    clear hV hv hX hd hb ha hl
    generalize txB b = S at *
    generalize txB a = T at *
    generalize txB l = Q at *
    go_enter Tryd.func34, Tryd.ntmps34
    go_wp2
    refine bodyPost_ret (v := .tuple #[.int .i64 0, .bool false]) (by simp [results, Tryd.results34, go_sem]) rfl ⟨rfl, by go_grown⟩
  · have hlen : l.length = b.length + d + a.length := by simpa using hX
    have HP := Lib.hid (fun w => hasp_c l b w)
    have HS := Lib.hid (fun w => hass_c l a (by omega) w)
    have hq : ∀ W, (Instr.slice 9 (.string (txB l)) (some (.int .i64 (b.length : Int))) (some (.int .i64 ((b.length : Int) + (d : Int)))) none).run Tryd.prog W = .ok (.string (txB ((l.drop b.length).take d))) W := fun W => by
      rw [run_slice_string _ _ _ _ _ _ _ Tryd.underlying9 (by omega) (by omega) (by rw [z3]; omega), txB_extract]
      rw [show ((b.length : Int) + (d : Int)).toNat = b.length + d by omega, show ((b.length : Nat) : Int).toNat = b.length by omega, List.drop_take]
      congr 3
      congr 1
      omega
    have hl4 : ((l.drop b.length).take d).length = d := by rw [List.length_take, List.length_drop]; omega
    have hlt := numL_four ((l.drop b.length).take d) (by omega)
    have hge := (numL_lt ((l.drop b.length).take d) 0 (by omega)).2
    have HO := Lib.hid (fun (hd0 : d ≠ 0) h w => uintp_ok ((l.drop b.length).take d) (by intro e; rw [e] at hl4; simp at hl4; omega) (by omega) h w)
    have HN := Lib.hid (fun (hd0 : d ≠ 0) h w hE => uintp_no ((l.drop b.length).take d) (by intro e; rw [e] at hl4; simp at hl4; omega) (by omega) h w hE)
    unfold arV
    generalize numL ((l.drop b.length).take d) 0 = V at *
    generalize txB ((l.drop b.length).take d) = R at *
    generalize txB b = S at *
    generalize txB a = T at *
    generalize txB l = Q at *
    generalize Lib.hasPrefix l b = P1 at *
    generalize Lib.hasSuffix l a = P2 at *
    have hE' := hE
    clear hX hl4 ha hb
    by_cases hcc : (P1 && P2) = true
    · obtain ⟨rfl, rfl⟩ : P1 = true ∧ P2 = true := by simpa using hcc
      by_cases hd0 : d = 0
      · have hv : parW b d a l = 0 := by rw [hV]; simp [hd0]
        rw [hv]
        have e0 : ((d : Int) == 0) = true := by rw [beq_iff_eq]; omega
        clear hV hv hd0 HO HN hlt hge hd hE hE' hlen hl hcc
        go_enter Tryd.func34, Tryd.ntmps34
        go_wp2_with (first | (go_at_call 52; (with_reducible refine (HP.out _).mono ?_); rintro _ _ ⟨rfl, rfl⟩) | (go_at_call 53; (with_reducible refine (HS.out _).mono ?_); rintro _ _ ⟨rfl, rfl⟩))
        refine bodyPost_ret (v := .tuple #[.int .i64 0, .bool true]) (by simp [results, Tryd.results34, go_sem]) rfl ⟨rfl, by go_grown⟩
      · have hv : parW b d a l = V := by rw [hV]; simp [hd0]
        rw [hv]
        have e0 : ((d : Int) == 0) = false := by rw [beq_eq_false_iff_ne]; omega
        by_cases hneg : V < 0
        · have HNN := Lib.hid (HN.out hd0 hneg)
          have hd1 : decide (0 ≤ V) = false := decide_eq_false (by omega)
          rw [if_pos hneg, hd1]
          clear hV hv hd0 HO HN hlt hge hd hlen hl hcc hneg hd1
          go_enter Tryd.func34, Tryd.ntmps34
          go_wp2_with (first | (go_at_call 52; (with_reducible refine (HP.out _).mono ?_); rintro _ _ ⟨rfl, rfl⟩) | (go_at_call 53; (with_reducible refine (HS.out _).mono ?_); rintro _ _ ⟨rfl, rfl⟩))
          refine (HNN.out _ (hE.below (by go_grown))).mono ?_
          rintro _ u ⟨N, rfl, hb⟩
          have hB : Below w.heap.size w u := kb (by go_grown) hb
          clear hb hE hE'
          go_wp2_with fail
          go_region
          all_goals
            go_wp2
            refine bodyPost_ret (v := .tuple #[.int .i64 0, .bool false]) (by simp [results, Tryd.results34, go_sem]) rfl ⟨rfl, by go_grown⟩
        · have HOO := Lib.hid (HO.out hd0 (by omega))
          have hd1 : decide (0 ≤ V) = true := decide_eq_true (by omega)
          have w5 : IntKind.i64.wrap V = V := IntWalk.i64_in _ (by omega)
          rw [if_neg hneg, hd1]
          clear hV hv hd0 HO HN hlt hge hd hlen hl hcc hneg hd1 hE hE'
          go_enter Tryd.func34, Tryd.ntmps34
          go_wp2_with (first | (go_at_call 52; (with_reducible refine (HP.out _).mono ?_); rintro _ _ ⟨rfl, rfl⟩) | (go_at_call 53; (with_reducible refine (HS.out _).mono ?_); rintro _ _ ⟨rfl, rfl⟩))
          ((with_reducible refine (HOO.out _).mono ?_); rintro _ u ⟨rfl, hb⟩)
          have T : u.cell? ⟨w.heap.size, 0, none⟩ = some (.string S) ∧ u.cell? ⟨w.heap.size, 1, none⟩ = some (.int .i64 d) ∧ u.cell? ⟨w.heap.size, 2, none⟩ = some (.string T) := by
              refine ⟨?_, ?_, ?_⟩ <;> refine kc hb ?_ <;> (go_simp; first | done | rfl)
          have hz := hb.size
          (try simp only [World.size_alloc, World.size_setCell, World.size_drew] at hz)
          have hlx' : w.heap.size < u.heap.size := by omega
          have hB' : Below w.heap.size w u := by
              refine kb ?_ hb
              go_grown
          clear hb hz
          obtain ⟨hx_0, hx_1, hx_2⟩ := T
          have hlx := hlx'; clear hlx'
          have hnx0 : ¬ (w.heap.size = u.heap.size) := by omega
          have hnx1 : ¬ (w.heap.size = u.heap.size + 1) := by omega
          have hkx1 : w.heap.size < u.heap.size + 1 := by omega
          have hnx2 : ¬ (w.heap.size = u.heap.size + 1 + 1) := by omega
          have hkx2 : w.heap.size < u.heap.size + 1 + 1 := by omega
          have hB := hB'; clear hB'
          have hsz := hB.size
          go_wp2_with fail
          go_region
          all_goals
            go_wp2
            refine bodyPost_ret (v := .tuple #[.int .i64 V, .bool true]) (by simp [results, Tryd.results34, go_sem]) rfl ⟨rfl, by go_grown⟩
    · have hv : parW b d a l = -1 := by rw [hV, if_neg (by simpa using hcc)]
      rw [hv]
      have hpp : P1 = false ∨ (P1 = true ∧ P2 = false) := by cases P1 <;> cases P2 <;> simp_all
      clear hV hv HO HN hlt hge hd hlen hl hcc hE hE'
      rcases hpp with rfl | ⟨rfl, rfl⟩
      all_goals
        skip
        go_enter Tryd.func34, Tryd.ntmps34
        go_wp2_with (first | (go_at_call 52; (with_reducible refine (HP.out _).mono ?_); rintro _ _ ⟨rfl, rfl⟩) | (go_at_call 53; (with_reducible refine (HS.out _).mono ?_); rintro _ _ ⟨rfl, rfl⟩))
        refine bodyPost_ret (v := .tuple #[.int .i64 0, .bool false]) (by simp [results, Tryd.results34, go_sem]) rfl ⟨rfl, by go_grown⟩
end Go.Proofs.YtpjpoopgafcedaaDoor
