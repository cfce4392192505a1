/-
  Layer 5, the program: a number with what is around it; what is wrong with a line.
-/
import Derived.Test.YtpjpoopgafcedaaDoorArs
import Derived.Test.YtpjpoopgafcedaaDoorHexf
import Derived.Test.YtpjpoopgafcedaaDoorShelf
import Derived.Test.YtpjpoopgafcedaaDoorOf
import Derived.Test.YtpjpoopgafcedaaDoorText
import Derived.Test.YtpjpoopgafcedaaDoorWrit
set_option linter.unusedSimpArgs false
set_option linter.unusedVariables false
namespace Go.Proofs.YtpjpoopgafcedaaDoor
open Go.RowKit Go.PlainAid

theorem up_low : ∀ d : Fin 16, Lib.upperB (lowL d.val) = hexL d.val := by decide +kernel
theorem low_ascii : ∀ d : Fin 16, (lowL d.val).toNat < 128 := by decide +kernel
theorem up_lows (n : Nat) : ∀ k, Lib.toUpperA (lowsL n k) = digsL n k
  | 0 => rfl
  | k + 1 => by
    show Lib.upperB (lowL (n / 16 ^ k % 16)) :: Lib.toUpperA (lowsL n k) = hexL (n / 16 ^ k % 16) :: digsL n k
    rw [up_lows n k, up_low ⟨n / 16 ^ k % 16, Nat.mod_lt _ (by omega)⟩]
theorem lows_ascii (n : Nat) : ∀ k, ∀ x ∈ lowsL n k, x.toNat < 128
  | 0, x, h => by cases h
  | k + 1, x, h => by
    rcases List.mem_cons.1 h with rfl | h
    · exact low_ascii ⟨_, Nat.mod_lt _ (by omega)⟩
    · exact lows_ascii n k x h
theorem digs_one (n d : Nat) (hd : d = 0 ∨ d = 2 ∨ d = 4) : digsL (16 ^ d + n) d = digsL n d := by
  rcases hd with rfl | rfl | rfl
  · rfl
  · simp only [digsL]
    rw [show (16 ^ 2 + n) / 16 ^ 1 % 16 = n / 16 ^ 1 % 16 by omega, show (16 ^ 2 + n) / 16 ^ 0 % 16 = n / 16 ^ 0 % 16 by omega]
  · simp only [digsL]
    rw [show (16 ^ 4 + n) / 16 ^ 3 % 16 = n / 16 ^ 3 % 16 by omega, show (16 ^ 4 + n) / 16 ^ 2 % 16 = n / 16 ^ 2 % 16 by omega, show (16 ^ 4 + n) / 16 ^ 1 % 16 = n / 16 ^ 1 % 16 by omega, show (16 ^ 4 + n) / 16 ^ 0 % 16 = n / 16 ^ 0 % 16 by omega]
theorem upper_c (n k : Nat) (hk : k ≤ 4) (w : World) : Calls Tryd.prog 51 #[.string (txB (lowsL n k))] w fun e w' => e = .returned (.string (txB (digsL n k))) ∧ Below w.heap.size w w' := by
  refine (Tryd.strings_ToUpper_ascii (txB (lowsL n k)) w (by rw [txB_size, lows_len]; omega) ?_).mono ?_
  · intro j b h
    exact lows_ascii n k b (List.mem_of_getElem? (by simpa using h))
  · rintro e w' ⟨rfl, hb⟩
    exact ⟨by rw [show (txB (lowsL n k)).data.toList = lowsL n k by simp, up_lows], hb⟩
set_option maxRecDepth 100000 in
set_option maxHeartbeats 1000000 in
theorem print_c (b a : List UInt8) (d n : Nat) (hd : d = 0 ∨ d = 2 ∨ d = 4) (hb : b.length ≤ 10) (ha : a.length ≤ 10) (hn : n < 16 ^ d) (w : World) (hT : w.cell? ⟨9, 15, none⟩ = some (.int .u8 4)) :
    Calls Tryd.prog 27 #[arV b d a, .int .i64 n] w fun e w' => e = .returned (.string (txB (b ++ digsL n d ++ a))) ∧ Below w.heap.size w w' := by
  have h4 : 16 ^ d ≤ 16 ^ 4 := Nat.pow_le_pow_right (by omega) (by omega)
  have HS := Lib.hid (fun w => size_c b a d (by omega) w)
  have HF := Lib.hid (fun (w : World) hT => fmt_c (16 ^ d + n) w hT (by omega) d (by omega) (by rw [Nat.pow_succ]; omega))
  have HU := Lib.hid (fun w => upper_c (16 ^ d + n) d (by omega) w)
  have hq : ∀ W, (Instr.slice 9 (.string (txB (lowsL (16 ^ d + n) (d + 1)))) (some (.int .i64 1)) none none).run Tryd.prog W = .ok (.string (txB (lowsL (16 ^ d + n) d))) W := fun W => by
    rw [run_slice_string_l (ht := Tryd.underlying9) (h0 := by omega) (h1 := by rw [txB_size, lows_len]; omega), txB_extract, txB_size]
    rw [List.take_length]; rfl
  have HL := Lib.hid (digs_one n d hd)
  have hz1 : (txB b).size ≤ 10 := by rw [txB_size]; exact hb
  have hz2 : (txB a).size ≤ 10 := by rw [txB_size]; exact ha
  have hz3 : (txB (digsL (16 ^ d + n) d)).size ≤ 4 := by rw [txB_size, digsL_len]; omega
  have HV := Lib.hid (show txB b ++ txB (digsL (16 ^ d + n) d) ++ txB a = txB (b ++ digsL n d ++ a) from by rw [txB_append, txB_append, digs_one n d hd])
  have hadd : IntKind.i64.wrap (((16 ^ d : Nat) : Int) + (n : Int)) = ((16 ^ d + n : Nat) : Int) := by rw [IntWalk.i64_in _ (by omega)]; omega
  unfold arV at *
  generalize txB b = S at *
  generalize txB a = T at *
  generalize txB (digsL (16 ^ d + n) d) = D at *
  generalize txB (lowsL (16 ^ d + n) d) = L at *
  generalize txB (lowsL (16 ^ d + n) (d + 1)) = L1 at *
  generalize 16 ^ d + n = M at *
  generalize 16 ^ d = P at *
  have hs1 : ¬ 9223372036854775807 < S.size + D.size := by omega
  have hs2 : ¬ 9223372036854775807 < S.size + D.size + T.size := by omega
  clear hn h4 hd hb ha hz1 hz2 hz3
  go_enter Tryd.func27, Tryd.ntmps27
  go_wp2_with fail
  ((with_reducible refine (HS.out _).mono ?_); rintro _ u ⟨rfl, hb⟩)
  have T : u.cell? ⟨w.heap.size, 0, none⟩ = some (.string S) ∧ u.cell? ⟨w.heap.size, 1, none⟩ = some (.int .i64 d) ∧ u.cell? ⟨w.heap.size, 2, none⟩ = some (.string T) := by
      refine ⟨?_, ?_, ?_⟩ <;> refine kc hb ?_ <;> (go_simp; first | done | rfl)
  have hz := hb.size
  (try simp only [World.size_alloc, World.size_setCell, World.size_drew] at hz)
  have hlx' : w.heap.size < u.heap.size := by omega
  have hB' : Below w.heap.size w u := by
      refine kb ?_ hb
      go_grown
  clear hb hz
  obtain ⟨hx_0, hx_1, hx_2⟩ := T
  have hlx := hlx'; clear hlx'
  have hnx0 : ¬ (w.heap.size = u.heap.size) := by omega
  have hnx1 : ¬ (w.heap.size = u.heap.size + 1) := by omega
  have hkx1 : w.heap.size < u.heap.size + 1 := by omega
  have hnx2 : ¬ (w.heap.size = u.heap.size + 1 + 1) := by omega
  have hkx2 : w.heap.size < u.heap.size + 1 + 1 := by omega
  have hB := hB'; clear hB'
  have hsz := hB.size
  go_wp2_with fail
  have hT2 := kc hB hT
  ((with_reducible refine (HF.out _ hT2).mono ?_); rintro _ u2 ⟨rfl, hb⟩)
  have T : u2.cell? ⟨w.heap.size, 0, none⟩ = some (.string S) ∧ u2.cell? ⟨w.heap.size, 1, none⟩ = some (.int .i64 d) ∧ u2.cell? ⟨w.heap.size, 2, none⟩ = some (.string T) := by
      refine ⟨?_, ?_, ?_⟩ <;> refine kc hb ?_ <;> (go_simp; first | done | rfl)
  have hz := hb.size
  (try simp only [World.size_alloc, World.size_setCell, World.size_drew] at hz)
  have hlx' : w.heap.size < u2.heap.size := by omega
  have hB' : Below w.heap.size w u2 := by
      refine kb ?_ hb
      go_grown
  clear hx_0 hx_1 hx_2 hlx hnx0 hnx1 hkx1 hnx2 hkx2 hB hsz
  clear hb hz
  obtain ⟨hx_0, hx_1, hx_2⟩ := T
  have hlx := hlx'; clear hlx'
  have hnx0 : ¬ (w.heap.size = u2.heap.size) := by omega
  have hnx1 : ¬ (w.heap.size = u2.heap.size + 1) := by omega
  have hkx1 : w.heap.size < u2.heap.size + 1 := by omega
  have hnx2 : ¬ (w.heap.size = u2.heap.size + 1 + 1) := by omega
  have hkx2 : w.heap.size < u2.heap.size + 1 + 1 := by omega
  have hB := hB'; clear hB'
  have hsz := hB.size
  go_wp2_with fail
  refine wp_region_plan (fun w' => w'.cell? ⟨w.heap.size, 0, none⟩ = some (.string S) ∧ w'.cell? ⟨w.heap.size, 1, none⟩ = some (.int .i64 d) ∧ w'.cell? ⟨w.heap.size, 2, none⟩ = some (.string T) ∧ Below w.heap.size w w') (by kernel_rfl) (by kernel_rfl) (by kernel_rfl) ?_ ?_
  · (try dsimp only)
    refine ⟨?_, ?_, ?_, ?_⟩ <;> first | (go_simp; done) | (simp [*]; done) | go_grown
  repeat (first
    | (refine Plan.val (v := ?_) ?_ ?_ ?_; rotate_left; (· rfl); (· (intro W hSw; (try dsimp only at hSw); go_simp; all_goals (first | (with_reducible rfl) | (constructor <;> (with_reducible rfl))))); (try simp only [Act.put, List.setIfInBounds_toArray, List.set_cons_zero, List.set_cons_succ]))
    | (refine Plan.no ?_ ?_; (· rfl); (try simp only [Act.put, List.setIfInBounds_toArray, List.set_cons_zero, List.set_cons_succ]))
    | (refine Plan.call (v := ?_) (f := ?_) (args := ?_) ?_ ?_ ?_ ?_; rotate_left 3; (· rfl); (· (intro W hSw; (try dsimp only at hSw); go_simp; all_goals (first | (with_reducible rfl) | (constructor <;> (with_reducible rfl))))); (· (intro W hSw; (try dsimp only at hSw); first | (go_at_call 51; ((with_reducible refine (HU.out _).mono ?_); rintro _ wz ⟨rfl, hb⟩; (refine ⟨?_, ?_⟩; (· with_reducible rfl); exact ⟨kc hb hSw.1, kc hb hSw.2.1, kc hb hSw.2.2.1, kb hSw.2.2.2 hb⟩))))); (try simp only [Act.put, List.setIfInBounds_toArray, List.set_cons_zero, List.set_cons_succ])))
  refine Plan.done ?_
  intro wz T
  (try dsimp only at T)
  have hBe := T.2.2.2
  go_wp2
  go_ret
  exact ⟨by rw [HV.out]; rfl, hBe⟩
end Go.Proofs.YtpjpoopgafcedaaDoor
