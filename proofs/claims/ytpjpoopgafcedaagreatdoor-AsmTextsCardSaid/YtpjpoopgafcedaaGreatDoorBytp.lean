/-
  Layer 5, the program: a line's bytes at an address.
-/
import Derived.Test.YtpjpoopgafcedaaGreatDoorPrintl
import Derived.Test.YtpjpoopgafcedaaGreatDoorBytsAll
import Derived.Test.YtpjpoopgafcedaaGreatDoorLenp
set_option linter.unusedSimpArgs false
set_option linter.unusedVariables false
namespace Go.Proofs.YtpjpoopgafcedaaGreatDoor
open Go.RowKit Go.PlainAid Go.Joins

def fitsD (a m : Int) : Bool := decide (0 ≤ a) && decide (a ≤ 65536 - m)
theorem fits_c (a m : Int) (h1 : 1 ≤ m) (h3 : m ≤ 3) (w : World) : Calls Tryz.prog 18 #[.int .i64 a, .int .i64 m] w fun e w' => e = .returned (.bool (fitsD a m)) ∧ w = w' := by
  have hv : fitsD a m = (decide (0 ≤ a) && decide (a ≤ 65536 - m)) := rfl
  have hw : IntKind.i64.wrap (65536 - m) = 65536 - m := IntWalk.i64_in _ (by omega)
  rw [hv]
  cases h0 : decide (0 ≤ a)
  · go_enter Tryz.func18, Tryz.ntmps18
    go_wp2
    go_ret
    exact ⟨rfl, rfl⟩
  · go_enter Tryz.func18, Tryz.ntmps18
    go_wp2
    go_ret
    exact ⟨rfl, rfl⟩
set_option maxRecDepth 100000 in
set_option maxHeartbeats 1000000 in
theorem bytp_wrong (b : Nat) (n a E : Int) (hE : E ≠ 0) (c : Array Value)
    (hW : ∀ w, Laid w → Calls Tryz.prog 15 #[.agg #[.int .u8 b, .int .i64 n]] w fun e w' => e = .returned (.tuple #[.agg #[.string ⟨#[]⟩, .int .i64 0, .int .i64 0], .int .i64 E]) ∧ Below w.heap.size w w') (w : World) (hl : Laid w) :
    Calls Tryz.prog 9 #[.agg #[.int .u8 b, .int .i64 n], .int .i64 a] w (BytesEnd w [] E) := by
  have HW := Lib.hid hW
  have hne : (E != 0) = true := by rw [bne_iff_ne]; exact hE
  clear hW hE
  go_enter Tryz.func9, Tryz.ntmps9
  go_wp2_with fail
  ((with_reducible refine (HW.out _ (hl.below (by go_grown))).mono ?_); rintro _ u ⟨rfl, hb⟩)
  have T : u.cell? ⟨w.heap.size, 0, none⟩ = some (.int .u8 b) ∧ u.cell? ⟨w.heap.size, 1, none⟩ = some (.int .i64 n) := by
      refine ⟨?_, ?_⟩ <;> refine kc hb ?_ <;> (go_simp; first | done | rfl)
  have hz := hb.size
  (try simp only [World.size_alloc, World.size_setCell, World.size_drew] at hz)
  have hlx' : w.heap.size < u.heap.size := by omega
  have hB' : Below w.heap.size w u := by
      refine kb ?_ hb
      go_grown
  clear hb hz
  obtain ⟨hx_0, hx_1⟩ := T
  have hlx := hlx'; clear hlx'
  have hnx0 : ¬ (w.heap.size = u.heap.size) := by omega
  have hnx1 : ¬ (w.heap.size = u.heap.size + 1) := by omega
  have hkx1 : w.heap.size < u.heap.size + 1 := by omega
  have hnx2 : ¬ (w.heap.size = u.heap.size + 1 + 1) := by omega
  have hkx2 : w.heap.size < u.heap.size + 1 + 1 := by omega
  have hB := hB'; clear hB'
  have hsz := hB.size
  go_wp2
  refine bodyPost_ret (v := .tuple #[.slice none 0 0, .int .i64 E]) (by simp [results, Tryz.results9, go_sem]) rfl (bytesEnd_nil (by go_grown))
set_option maxRecDepth 100000 in
set_option maxHeartbeats 1000000 in
theorem bytp_range (b : Nat) (n a k K m : Int) (N : ByteArray)
    (hW : ∀ w, Laid w → Calls Tryz.prog 15 #[.agg #[.int .u8 b, .int .i64 n]] w fun e w' => e = .returned (.tuple #[.agg #[.string N, .int .i64 k, .int .i64 K], .int .i64 0]) ∧ Below w.heap.size w w')
    (hL : ∀ w, Calls Tryz.prog 17 #[.int .i64 k] w fun e w' => e = .returned (.int .i64 m) ∧ Below w.heap.size w w')
    (hm : 1 ≤ m ∧ m ≤ 3) (h : fitsD a m = false) (w : World) (hl : Laid w) :
    Calls Tryz.prog 9 #[.agg #[.int .u8 b, .int .i64 n], .int .i64 a] w (BytesEnd w [] 10) := by
  have HW := Lib.hid hW
  have HL := Lib.hid hL
  have HF := Lib.hid (fun w => fits_c a m hm.1 hm.2 w)
  rw [h] at HF
  clear hW hL h hm
  go_enter Tryz.func9, Tryz.ntmps9
  go_wp2_with fail
  ((with_reducible refine (HW.out _ (hl.below (by go_grown))).mono ?_); rintro _ u ⟨rfl, hb⟩)
  have T : u.cell? ⟨w.heap.size, 0, none⟩ = some (.int .u8 b) ∧ u.cell? ⟨w.heap.size, 1, none⟩ = some (.int .i64 n) := by
      refine ⟨?_, ?_⟩ <;> refine kc hb ?_ <;> (go_simp; first | done | rfl)
  have hz := hb.size
  (try simp only [World.size_alloc, World.size_setCell, World.size_drew] at hz)
  have hlx' : w.heap.size < u.heap.size := by omega
  have hB' : Below w.heap.size w u := by
      refine kb ?_ hb
      go_grown
  clear hb hz
  obtain ⟨hx_0, hx_1⟩ := T
  have hlx := hlx'; clear hlx'
  have hnx0 : ¬ (w.heap.size = u.heap.size) := by omega
  have hnx1 : ¬ (w.heap.size = u.heap.size + 1) := by omega
  have hkx1 : w.heap.size < u.heap.size + 1 := by omega
  have hnx2 : ¬ (w.heap.size = u.heap.size + 1 + 1) := by omega
  have hkx2 : w.heap.size < u.heap.size + 1 + 1 := by omega
  have hB := hB'; clear hB'
  have hsz := hB.size
  go_wp2_with fail
  ((with_reducible refine (HL.out _).mono ?_); rintro _ u2 ⟨rfl, hb⟩)
  have T : u2.cell? ⟨w.heap.size, 0, none⟩ = some (.int .u8 b) ∧ u2.cell? ⟨w.heap.size, 1, none⟩ = some (.int .i64 n) ∧ u2.cell? ⟨u.heap.size, 0, none⟩ = some (.string N) ∧ u2.cell? ⟨u.heap.size, 1, none⟩ = some (.int .i64 k) ∧ u2.cell? ⟨u.heap.size, 2, none⟩ = some (.int .i64 K) := by
      refine ⟨?_, ?_, ?_, ?_, ?_⟩ <;> refine kc hb ?_ <;> (go_simp; first | done | rfl)
  have hz := hb.size
  (try simp only [World.size_alloc, World.size_setCell, World.size_drew] at hz)
  have hlx' : w.heap.size < u2.heap.size := by omega
  have hlr' : u.heap.size < u2.heap.size := by omega
  have hB' : Below w.heap.size w u2 := by
      refine kb ?_ hb
      go_grown
  clear hx_0 hx_1 hlx hnx0 hnx1 hkx1 hnx2 hkx2 hB hsz
  clear hb hz
  obtain ⟨hx_0, hx_1, hr_0, hr_1, hr_2⟩ := T
  have hlx := hlx'; clear hlx'
  have hlr := hlr'; clear hlr'
  have hnx0 : ¬ (w.heap.size = u2.heap.size) := by omega
  have hnx1 : ¬ (w.heap.size = u2.heap.size + 1) := by omega
  have hkx1 : w.heap.size < u2.heap.size + 1 := by omega
  have hnx2 : ¬ (w.heap.size = u2.heap.size + 1 + 1) := by omega
  have hkx2 : w.heap.size < u2.heap.size + 1 + 1 := by omega
  have hnr0 : ¬ (u.heap.size = u2.heap.size) := by omega
  have hnr1 : ¬ (u.heap.size = u2.heap.size + 1) := by omega
  have hkr1 : u.heap.size < u2.heap.size + 1 := by omega
  have hnr2 : ¬ (u.heap.size = u2.heap.size + 1 + 1) := by omega
  have hkr2 : u.heap.size < u2.heap.size + 1 + 1 := by omega
  have hB := hB'; clear hB'
  have hsz := hB.size
  go_wp2_with (go_at_call 18; (with_reducible refine (HF.out _).mono ?_); rintro _ _ ⟨rfl, rfl⟩)
  refine bodyPost_ret (v := .tuple #[.slice none 0 0, .int .i64 10]) (by simp [results, Tryz.results9, go_sem]) rfl (bytesEnd_nil (by go_grown))
set_option maxRecDepth 100000 in
set_option maxHeartbeats 1000000 in
theorem bytp_far (b : Nat) (n a K : Int) (N : ByteArray)
    (hW : ∀ w, Laid w → Calls Tryz.prog 15 #[.agg #[.int .u8 b, .int .i64 n]] w fun e w' => e = .returned (.tuple #[.agg #[.string N, .int .i64 12, .int .i64 K], .int .i64 0]) ∧ Below w.heap.size w w')
    (hL : ∀ w, Calls Tryz.prog 17 #[.int .i64 12] w fun e w' => e = .returned (.int .i64 2) ∧ Below w.heap.size w w')
    (hf : fitsD a 2 = true) (hn : 0 ≤ n) (hn2 : n ≤ 65535) (h : n - a - 2 < -128 ∨ 127 < n - a - 2) (w : World) (hl : Laid w) :
    Calls Tryz.prog 9 #[.agg #[.int .u8 b, .int .i64 n], .int .i64 a] w (BytesEnd w [] 10) := by
  have HW := Lib.hid hW
  have HL := Lib.hid hL
  have HF := Lib.hid (fun w => fits_c a 2 (by decide) (by decide) w)
  rw [hf] at HF
  have ha : 0 ≤ a ∧ a ≤ 65534 := by unfold fitsD at hf; simp at hf; omega
  have w1 : IntKind.i64.wrap (a + 2) = a + 2 := IntWalk.i64_in _ (by omega)
  have w2 : IntKind.i64.wrap (n - (a + 2)) = n - (a + 2) := IntWalk.i64_in _ (by omega)
  have hx : (decide (n - (a + 2) < -128) = true) ∨ (decide (n - (a + 2) < -128) = false ∧ decide (127 < n - (a + 2)) = true) := by
    by_cases h1 : n - (a + 2) < -128
    · exact .inl (decide_eq_true h1)
    · exact .inr ⟨decide_eq_false h1, decide_eq_true (by omega)⟩
  clear hW hL h hf ha hn hn2
  rcases hx with g1 | ⟨g1, g2⟩
  all_goals
    skip
    go_enter Tryz.func9, Tryz.ntmps9
    go_wp2_with fail
    ((with_reducible refine (HW.out _ (hl.below (by go_grown))).mono ?_); rintro _ u ⟨rfl, hb⟩)
    have T : u.cell? ⟨w.heap.size, 0, none⟩ = some (.int .u8 b) ∧ u.cell? ⟨w.heap.size, 1, none⟩ = some (.int .i64 n) := by
        refine ⟨?_, ?_⟩ <;> refine kc hb ?_ <;> (go_simp; first | done | rfl)
    have hz := hb.size
    (try simp only [World.size_alloc, World.size_setCell, World.size_drew] at hz)
    have hlx' : w.heap.size < u.heap.size := by omega
    have hB' : Below w.heap.size w u := by
        refine kb ?_ hb
        go_grown
    clear hb hz
    obtain ⟨hx_0, hx_1⟩ := T
    have hlx := hlx'; clear hlx'
    have hnx0 : ¬ (w.heap.size = u.heap.size) := by omega
    have hnx1 : ¬ (w.heap.size = u.heap.size + 1) := by omega
    have hkx1 : w.heap.size < u.heap.size + 1 := by omega
    have hnx2 : ¬ (w.heap.size = u.heap.size + 1 + 1) := by omega
    have hkx2 : w.heap.size < u.heap.size + 1 + 1 := by omega
    have hB := hB'; clear hB'
    have hsz := hB.size
    go_wp2_with fail
    ((with_reducible refine (HL.out _).mono ?_); rintro _ u2 ⟨rfl, hb⟩)
    have T : u2.cell? ⟨w.heap.size, 0, none⟩ = some (.int .u8 b) ∧ u2.cell? ⟨w.heap.size, 1, none⟩ = some (.int .i64 n) ∧ u2.cell? ⟨u.heap.size, 0, none⟩ = some (.string N) ∧ u2.cell? ⟨u.heap.size, 1, none⟩ = some (.int .i64 12) ∧ u2.cell? ⟨u.heap.size, 2, none⟩ = some (.int .i64 K) := by
        refine ⟨?_, ?_, ?_, ?_, ?_⟩ <;> refine kc hb ?_ <;> (go_simp; first | done | rfl)
    have hz := hb.size
    (try simp only [World.size_alloc, World.size_setCell, World.size_drew] at hz)
    have hlx' : w.heap.size < u2.heap.size := by omega
    have hlr' : u.heap.size < u2.heap.size := by omega
    have hB' : Below w.heap.size w u2 := by
        refine kb ?_ hb
        go_grown
    clear hx_0 hx_1 hlx hnx0 hnx1 hkx1 hnx2 hkx2 hB hsz
    clear hb hz
    obtain ⟨hx_0, hx_1, hr_0, hr_1, hr_2⟩ := T
    have hlx := hlx'; clear hlx'
    have hlr := hlr'; clear hlr'
    have hnx0 : ¬ (w.heap.size = u2.heap.size) := by omega
    have hnx1 : ¬ (w.heap.size = u2.heap.size + 1) := by omega
    have hkx1 : w.heap.size < u2.heap.size + 1 := by omega
    have hnx2 : ¬ (w.heap.size = u2.heap.size + 1 + 1) := by omega
    have hkx2 : w.heap.size < u2.heap.size + 1 + 1 := by omega
    have hnr0 : ¬ (u.heap.size = u2.heap.size) := by omega
    have hnr1 : ¬ (u.heap.size = u2.heap.size + 1) := by omega
    have hkr1 : u.heap.size < u2.heap.size + 1 := by omega
    have hnr2 : ¬ (u.heap.size = u2.heap.size + 1 + 1) := by omega
    have hkr2 : u.heap.size < u2.heap.size + 1 + 1 := by omega
    have hB := hB'; clear hB'
    have hsz := hB.size
    go_wp2_with (go_at_call 18; (with_reducible refine (HF.out _).mono ?_); rintro _ _ ⟨rfl, rfl⟩)
    refine bodyPost_ret (v := .tuple #[.slice none 0 0, .int .i64 10]) (by simp [results, Tryz.results9, go_sem]) rfl (bytesEnd_nil (by go_grown))
set_option maxRecDepth 100000 in
set_option maxHeartbeats 4000000 in
theorem bytp_ok (b M : Nat) (n a k K F : Int) (N : ByteArray) (hb : b < 256)
    (hW : ∀ w, Laid w → Calls Tryz.prog 15 #[.agg #[.int .u8 b, .int .i64 n]] w fun e w' => e = .returned (.tuple #[.agg #[.string N, .int .i64 k, .int .i64 K], .int .i64 0]) ∧ Below w.heap.size w w')
    (hL : ∀ w, Calls Tryz.prog 17 #[.int .i64 k] w fun e w' => e = .returned (.int .i64 ((M + 1 : Nat) : Int)) ∧ Below w.heap.size w w')
    (hM : M ≤ 2) (hf : fitsD a ((M + 1 : Nat) : Int) = true) (hk : ((k == 12) = true ∧ M = 1 ∧ F = n - (a + 2) ∧ -128 ≤ F ∧ F ≤ 127 ∧ 0 ≤ n ∧ n ≤ 65535) ∨ ((k == 12) = false ∧ F = n ∧ 0 ≤ n ∧ n ≤ 65535)) (w : World) (hl : Laid w) :
    Calls Tryz.prog 9 #[.agg #[.int .u8 b, .int .i64 n], .int .i64 a] w (BytesEnd w ((b : Int) :: [F % 256, F / 256 % 256].take M) 0) := by
  have HW := Lib.hid hW
  have HL := Lib.hid hL
  have HF := Lib.hid (fun w => fits_c a ((M + 1 : Nat) : Int) (by omega) (by omega) w)
  rw [hf] at HF
  have ha : 0 ≤ a ∧ a ≤ 65535 := by unfold fitsD at hf; simp at hf; omega
  have w3 : IntKind.i64.wrap (((M + 1 : Nat) : Int) - 1) = (M : Int) := by rw [IntWalk.i64_in _ (by omega)]; omega
  obtain ⟨i0, hi, hz0, hz1, hz2⟩ := info_parts Tryz.infoB
  have HM := Lib.hid hM
  have HFb : Hid (-128 ≤ F ∧ F ≤ 65535) := Lib.hid (by rcases hk with h | h <;> omega)
  clear hW hL hf
  rcases hk with ⟨hk, hM1, hF, h1, h2, _, _⟩ | ⟨hk, hF, _, _⟩
  · have w1 : IntKind.i64.wrap (a + ((M + 1 : Nat) : Int)) = a + 2 := by rw [IntWalk.i64_in _ (by omega)]; omega
    have w2 : IntKind.i64.wrap (n - (a + 2)) = F := by rw [IntWalk.i64_in _ (by omega)]; omega
    have g1 : decide (F < -128) = false := decide_eq_false (by omega)
    have g2 : decide (127 < F) = false := decide_eq_false (by omega)
    clear hF h1 h2 ha hM1 hM
    generalize ((M + 1 : Nat) : Int) = L at *
    go_enter Tryz.func9, Tryz.ntmps9
    go_wp2_with fail
    ((with_reducible refine (HW.out _ (hl.below (by go_grown))).mono ?_); rintro _ u ⟨rfl, hb⟩)
    have T : u.cell? ⟨w.heap.size, 0, none⟩ = some (.int .u8 b) ∧ u.cell? ⟨w.heap.size, 1, none⟩ = some (.int .i64 n) := by
        refine ⟨?_, ?_⟩ <;> refine kc hb ?_ <;> (go_simp; first | done | rfl)
    have hz := hb.size
    (try simp only [World.size_alloc, World.size_setCell, World.size_drew] at hz)
    have hlx' : w.heap.size < u.heap.size := by omega
    have hB' : Below w.heap.size w u := by
        refine kb ?_ hb
        go_grown
    clear hb hz
    obtain ⟨hx_0, hx_1⟩ := T
    have hlx := hlx'; clear hlx'
    have hnx0 : ¬ (w.heap.size = u.heap.size) := by omega
    have hnx1 : ¬ (w.heap.size = u.heap.size + 1) := by omega
    have hkx1 : w.heap.size < u.heap.size + 1 := by omega
    have hnx2 : ¬ (w.heap.size = u.heap.size + 1 + 1) := by omega
    have hkx2 : w.heap.size < u.heap.size + 1 + 1 := by omega
    have hB := hB'; clear hB'
    have hsz := hB.size
    go_wp2_with fail
    ((with_reducible refine (HL.out _).mono ?_); rintro _ u2 ⟨rfl, hb⟩)
    have T : u2.cell? ⟨w.heap.size, 0, none⟩ = some (.int .u8 b) ∧ u2.cell? ⟨w.heap.size, 1, none⟩ = some (.int .i64 n) ∧ u2.cell? ⟨u.heap.size, 0, none⟩ = some (.string N) ∧ u2.cell? ⟨u.heap.size, 1, none⟩ = some (.int .i64 k) ∧ u2.cell? ⟨u.heap.size, 2, none⟩ = some (.int .i64 K) := by
        refine ⟨?_, ?_, ?_, ?_, ?_⟩ <;> refine kc hb ?_ <;> (go_simp; first | done | rfl)
    have hz := hb.size
    (try simp only [World.size_alloc, World.size_setCell, World.size_drew] at hz)
    have hlx' : w.heap.size < u2.heap.size := by omega
    have hlr' : u.heap.size < u2.heap.size := by omega
    have hB' : Below w.heap.size w u2 := by
        refine kb ?_ hb
        go_grown
    clear hx_0 hx_1 hlx hnx0 hnx1 hkx1 hnx2 hkx2 hB hsz
    clear hb hz
    obtain ⟨hx_0, hx_1, hr_0, hr_1, hr_2⟩ := T
    have hlx := hlx'; clear hlx'
    have hlr := hlr'; clear hlr'
    have hnx0 : ¬ (w.heap.size = u2.heap.size) := by omega
    have hnx1 : ¬ (w.heap.size = u2.heap.size + 1) := by omega
    have hkx1 : w.heap.size < u2.heap.size + 1 := by omega
    have hnx2 : ¬ (w.heap.size = u2.heap.size + 1 + 1) := by omega
    have hkx2 : w.heap.size < u2.heap.size + 1 + 1 := by omega
    have hnr0 : ¬ (u.heap.size = u2.heap.size) := by omega
    have hnr1 : ¬ (u.heap.size = u2.heap.size + 1) := by omega
    have hkr1 : u.heap.size < u2.heap.size + 1 := by omega
    have hnr2 : ¬ (u.heap.size = u2.heap.size + 1 + 1) := by omega
    have hkr2 : u.heap.size < u2.heap.size + 1 + 1 := by omega
    have hB := hB'; clear hB'
    have hsz := hB.size
    go_wp2_with (go_at_call 18; (with_reducible refine (HF.out _).mono ?_); rintro _ _ ⟨rfl, rfl⟩)
    go_loopw [10, 48] (fun v i wr => ∃ (j : Nat) (J : Int), j ≤ M ∧ i = .int .i64 J ∧ Hid (J = j) ∧ Hid (wr.ownsRow w.heap.size 5 1 v (j + 1) (((b : Int) :: [F % 256, F / 256 % 256].take j).map (Value.int .u8))) ∧ Below w.heap.size w wr) (fun _ i _ => M - (intOf i).toNat)
    case atStart => exact ⟨0, 0, by omega, rfl, Lib.hid rfl, Lib.hid (World.ownsRow_lit (e := 5) (size := 1) (base := w.heap.size) u2 #[.int .u8 b] 1 (by omega) (by decide) rfl), by go_grown⟩
    case round =>
      obtain ⟨j, J, hj, rfl, HJ, HO, hB⟩ := hrel
      have hJ := HJ.out
      by_cases hlt : j < M
      · have hd : decide (J < (M : Int)) = true := decide_eq_true (by omega)
        have hj2 : J = 0 ∧ j = 0 ∨ J = 1 ∧ j = 1 := by have := HM.out; omega
        clear hJ
        have v0 : IntKind.u8.wrap F = F % 256 := IntKind.wrap_u8 F
        have v1 : IntKind.u8.wrap (F / 256) = F / 256 % 256 := IntKind.wrap_u8 _
        rcases hj2 with ⟨rfl, rfl⟩ | ⟨rfl, rfl⟩
        · go_wp2_with (at_builtin; refine wpList_append_own _ rfl _ _ 23 rfl w.heap.size 5 i0 (.int .u8 0) 1 1 Tryz.underlying23 hi hz0 hz1 hz2 rfl (by decide) _ 1 _ rfl (HO.out.alloc _) ⟨wr.heap.size, 0, none⟩ 1 1 [.int .u8 (F % 256)] rfl rfl ?c1 ?c2 ?c3 ?c4 ?c5 ?_)
          case c1 =>
            intro j u hj
            match j, hj with
            | 0, hj => simp at hj; subst hj; go_simp
          case c2 => intro u hu; simp at hu; subst hu; rfl
          case c3 => unfold maxLen; omega
          case c4 => (first | omega | (have := hB.size; simp; omega))
          case c5 => (first | omega | (have := hB.size; simp; omega))
          intro v' w' hown' hg _
          have hB' : Below w.heap.size w w' := Below.grown (w := wr.alloc (Obj.cells #[Value.int IntKind.u8 (F % 256)] 5)) (hB.alloc hB.size _) hg (by have := hB.size; simp; omega) (fun k hk => by have := HO.out.lt _ hk; omega)
          have HO' := Lib.hid hown'
          clear hown' hg
          go_wp2
          go_roundw
          case rel => exact ⟨1, 1, by omega, rfl, Lib.hid rfl, HO', hB'⟩
          case measure => simp [intOf]; omega
        · go_wp2_with (at_builtin; refine wpList_append_own _ rfl _ _ 23 rfl w.heap.size 5 i0 (.int .u8 0) 1 1 Tryz.underlying23 hi hz0 hz1 hz2 rfl (by decide) _ 2 _ rfl (HO.out.alloc _) ⟨wr.heap.size, 0, none⟩ 1 1 [.int .u8 (F / 256 % 256)] rfl rfl ?c1 ?c2 ?c3 ?c4 ?c5 ?_)
          case c1 =>
            intro j u hj
            match j, hj with
            | 0, hj => simp at hj; subst hj; go_simp
          case c2 => intro u hu; simp at hu; subst hu; rfl
          case c3 => unfold maxLen; omega
          case c4 => (first | omega | (have := hB.size; simp; omega))
          case c5 => (first | omega | (have := hB.size; simp; omega))
          intro v' w' hown' hg _
          have hB' : Below w.heap.size w w' := Below.grown (w := wr.alloc (Obj.cells #[Value.int IntKind.u8 (F / 256 % 256)] 5)) (hB.alloc hB.size _) hg (by have := hB.size; simp; omega) (fun k hk => by have := HO.out.lt _ hk; omega)
          have HO' := Lib.hid hown'
          clear hown' hg
          go_wp2
          go_roundw
          case rel => exact ⟨2, 2, by omega, rfl, Lib.hid rfl, HO', hB'⟩
          case measure => simp [intOf]; omega
      · have hjm : j = M := by omega
        subst hjm
        have hd : decide (J < (j : Int)) = false := decide_eq_false (by omega)
        clear hJ
        go_wp2
        refine bodyPost_ret (v := .tuple #[u10, .int .i64 0]) (by simp [results, Tryz.results9, go_sem]) rfl ⟨_, rfl, ?_, hB⟩
        have h := HO.out
        have hlen : ((b : Int) :: [F % 256, F / 256 % 256].take j).length = j + 1 := by
          have := HM.out
          rw [List.length_cons, List.length_take]; simp; omega
        rw [hlen]
        exact h
  · skip
    subst hF
    clear ha hM
    generalize ((M + 1 : Nat) : Int) = L at *
    go_enter Tryz.func9, Tryz.ntmps9
    go_wp2_with fail
    ((with_reducible refine (HW.out _ (hl.below (by go_grown))).mono ?_); rintro _ u ⟨rfl, hb⟩)
    have T : u.cell? ⟨w.heap.size, 0, none⟩ = some (.int .u8 b) ∧ u.cell? ⟨w.heap.size, 1, none⟩ = some (.int .i64 F) := by
        refine ⟨?_, ?_⟩ <;> refine kc hb ?_ <;> (go_simp; first | done | rfl)
    have hz := hb.size
    (try simp only [World.size_alloc, World.size_setCell, World.size_drew] at hz)
    have hlx' : w.heap.size < u.heap.size := by omega
    have hB' : Below w.heap.size w u := by
        refine kb ?_ hb
        go_grown
    clear hb hz
    obtain ⟨hx_0, hx_1⟩ := T
    have hlx := hlx'; clear hlx'
    have hnx0 : ¬ (w.heap.size = u.heap.size) := by omega
    have hnx1 : ¬ (w.heap.size = u.heap.size + 1) := by omega
    have hkx1 : w.heap.size < u.heap.size + 1 := by omega
    have hnx2 : ¬ (w.heap.size = u.heap.size + 1 + 1) := by omega
    have hkx2 : w.heap.size < u.heap.size + 1 + 1 := by omega
    have hB := hB'; clear hB'
    have hsz := hB.size
    go_wp2_with fail
    ((with_reducible refine (HL.out _).mono ?_); rintro _ u2 ⟨rfl, hb⟩)
    have T : u2.cell? ⟨w.heap.size, 0, none⟩ = some (.int .u8 b) ∧ u2.cell? ⟨w.heap.size, 1, none⟩ = some (.int .i64 F) ∧ u2.cell? ⟨u.heap.size, 0, none⟩ = some (.string N) ∧ u2.cell? ⟨u.heap.size, 1, none⟩ = some (.int .i64 k) ∧ u2.cell? ⟨u.heap.size, 2, none⟩ = some (.int .i64 K) := by
        refine ⟨?_, ?_, ?_, ?_, ?_⟩ <;> refine kc hb ?_ <;> (go_simp; first | done | rfl)
    have hz := hb.size
    (try simp only [World.size_alloc, World.size_setCell, World.size_drew] at hz)
    have hlx' : w.heap.size < u2.heap.size := by omega
    have hlr' : u.heap.size < u2.heap.size := by omega
    have hB' : Below w.heap.size w u2 := by
        refine kb ?_ hb
        go_grown
    clear hx_0 hx_1 hlx hnx0 hnx1 hkx1 hnx2 hkx2 hB hsz
    clear hb hz
    obtain ⟨hx_0, hx_1, hr_0, hr_1, hr_2⟩ := T
    have hlx := hlx'; clear hlx'
    have hlr := hlr'; clear hlr'
    have hnx0 : ¬ (w.heap.size = u2.heap.size) := by omega
    have hnx1 : ¬ (w.heap.size = u2.heap.size + 1) := by omega
    have hkx1 : w.heap.size < u2.heap.size + 1 := by omega
    have hnx2 : ¬ (w.heap.size = u2.heap.size + 1 + 1) := by omega
    have hkx2 : w.heap.size < u2.heap.size + 1 + 1 := by omega
    have hnr0 : ¬ (u.heap.size = u2.heap.size) := by omega
    have hnr1 : ¬ (u.heap.size = u2.heap.size + 1) := by omega
    have hkr1 : u.heap.size < u2.heap.size + 1 := by omega
    have hnr2 : ¬ (u.heap.size = u2.heap.size + 1 + 1) := by omega
    have hkr2 : u.heap.size < u2.heap.size + 1 + 1 := by omega
    have hB := hB'; clear hB'
    have hsz := hB.size
    go_wp2_with (go_at_call 18; (with_reducible refine (HF.out _).mono ?_); rintro _ _ ⟨rfl, rfl⟩)
    go_loopw [10, 48] (fun v i wr => ∃ (j : Nat) (J : Int), j ≤ M ∧ i = .int .i64 J ∧ Hid (J = j) ∧ Hid (wr.ownsRow w.heap.size 5 1 v (j + 1) (((b : Int) :: [F % 256, F / 256 % 256].take j).map (Value.int .u8))) ∧ Below w.heap.size w wr) (fun _ i _ => M - (intOf i).toNat)
    case atStart => exact ⟨0, 0, by omega, rfl, Lib.hid rfl, Lib.hid (World.ownsRow_lit (e := 5) (size := 1) (base := w.heap.size) u2 #[.int .u8 b] 1 (by omega) (by decide) rfl), by go_grown⟩
    case round =>
      obtain ⟨j, J, hj, rfl, HJ, HO, hB⟩ := hrel
      have hJ := HJ.out
      by_cases hlt : j < M
      · have hd : decide (J < (M : Int)) = true := decide_eq_true (by omega)
        have hj2 : J = 0 ∧ j = 0 ∨ J = 1 ∧ j = 1 := by have := HM.out; omega
        clear hJ
        have v0 : IntKind.u8.wrap F = F % 256 := IntKind.wrap_u8 F
        have v1 : IntKind.u8.wrap (F / 256) = F / 256 % 256 := IntKind.wrap_u8 _
        rcases hj2 with ⟨rfl, rfl⟩ | ⟨rfl, rfl⟩
        · go_wp2_with (at_builtin; refine wpList_append_own _ rfl _ _ 23 rfl w.heap.size 5 i0 (.int .u8 0) 1 1 Tryz.underlying23 hi hz0 hz1 hz2 rfl (by decide) _ 1 _ rfl (HO.out.alloc _) ⟨wr.heap.size, 0, none⟩ 1 1 [.int .u8 (F % 256)] rfl rfl ?c1 ?c2 ?c3 ?c4 ?c5 ?_)
          case c1 =>
            intro j u hj
            match j, hj with
            | 0, hj => simp at hj; subst hj; go_simp
          case c2 => intro u hu; simp at hu; subst hu; rfl
          case c3 => unfold maxLen; omega
          case c4 => (first | omega | (have := hB.size; simp; omega))
          case c5 => (first | omega | (have := hB.size; simp; omega))
          intro v' w' hown' hg _
          have hB' : Below w.heap.size w w' := Below.grown (w := wr.alloc (Obj.cells #[Value.int IntKind.u8 (F % 256)] 5)) (hB.alloc hB.size _) hg (by have := hB.size; simp; omega) (fun k hk => by have := HO.out.lt _ hk; omega)
          have HO' := Lib.hid hown'
          clear hown' hg
          go_wp2
          go_roundw
          case rel => exact ⟨1, 1, by omega, rfl, Lib.hid rfl, HO', hB'⟩
          case measure => simp [intOf]; omega
        · go_wp2_with (at_builtin; refine wpList_append_own _ rfl _ _ 23 rfl w.heap.size 5 i0 (.int .u8 0) 1 1 Tryz.underlying23 hi hz0 hz1 hz2 rfl (by decide) _ 2 _ rfl (HO.out.alloc _) ⟨wr.heap.size, 0, none⟩ 1 1 [.int .u8 (F / 256 % 256)] rfl rfl ?c1 ?c2 ?c3 ?c4 ?c5 ?_)
          case c1 =>
            intro j u hj
            match j, hj with
            | 0, hj => simp at hj; subst hj; go_simp
          case c2 => intro u hu; simp at hu; subst hu; rfl
          case c3 => unfold maxLen; omega
          case c4 => (first | omega | (have := hB.size; simp; omega))
          case c5 => (first | omega | (have := hB.size; simp; omega))
          intro v' w' hown' hg _
          have hB' : Below w.heap.size w w' := Below.grown (w := wr.alloc (Obj.cells #[Value.int IntKind.u8 (F / 256 % 256)] 5)) (hB.alloc hB.size _) hg (by have := hB.size; simp; omega) (fun k hk => by have := HO.out.lt _ hk; omega)
          have HO' := Lib.hid hown'
          clear hown' hg
          go_wp2
          go_roundw
          case rel => exact ⟨2, 2, by omega, rfl, Lib.hid rfl, HO', hB'⟩
          case measure => simp [intOf]; omega
      · have hjm : j = M := by omega
        subst hjm
        have hd : decide (J < (j : Int)) = false := decide_eq_false (by omega)
        clear hJ
        go_wp2
        refine bodyPost_ret (v := .tuple #[u10, .int .i64 0]) (by simp [results, Tryz.results9, go_sem]) rfl ⟨_, rfl, ?_, hB⟩
        have h := HO.out
        have hlen : ((b : Int) :: [F % 256, F / 256 % 256].take j).length = j + 1 := by
          have := HM.out
          rw [List.length_cons, List.length_take]; simp; omega
        rw [hlen]
        exact h
theorem lenp_r : ∀ m : Fin 13, lenD (m.val : Int) = lenR (m.val : Int) ∧ 1 ≤ lenR (m.val : Int) ∧ lenR (m.val : Int) ≤ 3 := by decide +kernel
theorem len_rel : lenR 12 = 2 := by decide
theorem bytp_c (b : Nat) (hb : b < 256) (n a : Int) (w : World) (hl : Laid w) :
    Calls Tryz.prog 9 #[.agg #[.int .u8 b, .int .i64 n], .int .i64 a] w (BytesEnd w (bytesL b n a) (bytesE b n a)) := by
  have hC := fun W (hl : Laid W) => check_c b hb n W hl
  by_cases hw : wrongD b n = 0
  · obtain ⟨p, hp, h0, h1⟩ := wrong_zero b n hw
    have ho : isOp b = true := by unfold isOp; rw [hp]; rfl
    obtain ⟨p', hp', hnm, hmd⟩ := op_place b ho
    obtain rfl : p' = p := Option.some.inj (hp'.symm.trans hp)
    obtain ⟨q1, q2, q3⟩ := lenp_r ⟨p' % 13, Nat.mod_lt _ (by omega)⟩
    have hmo := most_hi ((p' % 13 : Nat) : Int)
    have eE : bytesE b n a = bytesEk ((p' % 13 : Nat) : Int) n a := by unfold bytesE; rw [hp]
    have eL : bytesL b n a = bytesLk b ((p' % 13 : Nat) : Int) n a := by unfold bytesL; rw [hp]
    have e2 : checkC b n = #[.string ⟨(nm b).toArray⟩, .int .i64 ((p' % 13 : Nat) : Int), .int .i64 (kindP (nm b) (md b))] := by unfold checkC opC; rw [hw, if_pos rfl, ho, hmd]; rfl
    rw [hw, e2] at hC
    rw [eE, eL]
    have hLn := fun w => lenp_c ((p' % 13 : Nat) : Int) w
    dsimp only at q1 q2 q3
    rw [q1] at hLn
    generalize ((p' % 13 : Nat) : Int) = k at *
    have hn1 : ¬ (n < 0 ∨ mostD k < n) := by omega
    by_cases hf : a < 0 ∨ 65535 < a ∨ 65536 < a + lenR k
    · have x1 : bytesEk k n a = 10 := by unfold bytesEk; rw [if_neg hn1, if_pos hf]
      have x2 : bytesLk b k n a = [] := by unfold bytesLk; rw [x1, if_pos (by decide)]
      rw [x1, x2]
      exact bytp_range b n a k _ (lenR k) _ hC hLn ⟨q2, q3⟩ (by unfold fitsD; simp; omega) w hl
    · have hft : fitsD a (lenR k) = true := by unfold fitsD; simp; omega
      obtain ⟨M, hM⟩ : ∃ M : Nat, lenR k = ((M + 1 : Nat) : Int) := ⟨(lenR k).toNat - 1, by omega⟩
      by_cases hk : k = 12
      · subst hk
        by_cases hr : n - a - 2 < -128 ∨ 127 < n - a - 2
        · have x1 : bytesEk 12 n a = 10 := by unfold bytesEk; rw [if_neg hn1, if_neg hf, if_pos ⟨rfl, hr⟩]
          have x2 : bytesLk b 12 n a = [] := by unfold bytesLk; rw [x1, if_pos (by decide)]
          rw [x1, x2]
          rw [len_rel] at hLn hft
          exact bytp_far b n a _ _ hC hLn hft h0 (by omega) hr w hl
        · have x1 : bytesEk 12 n a = 0 := by unfold bytesEk; rw [if_neg hn1, if_neg hf, if_neg (fun h => hr h.2)]
          have x2 : bytesLk b 12 n a = [(b : Int), (n - a - 2) % 256] := by unfold bytesLk; rw [x1, if_neg (by decide), if_pos rfl]
          rw [x1, x2]
          rw [len_rel] at hLn hft
          have := bytp_ok b 1 n a 12 _ (n - a - 2) _ hb hC hLn (by omega) hft (.inl ⟨rfl, rfl, by omega, by omega, by omega, h0, by omega⟩) w hl
          exact this
      · have x1 : bytesEk k n a = 0 := by unfold bytesEk; rw [if_neg hn1, if_neg hf, if_neg (fun h => hk h.1)]
        have x2 : bytesLk b k n a = if lenR k = 1 then [(b : Int)] else if lenR k = 2 then [(b : Int), n % 256] else [(b : Int), n % 256, n / 256] := by unfold bytesLk; rw [x1, if_neg (by decide), if_neg hk]
        rw [x1, x2]
        rw [hM] at hLn hft ⊢
        have h := bytp_ok b M n a k _ n _ hb hC hLn (by omega) hft (.inr ⟨by rw [beq_eq_false_iff_ne]; exact hk, rfl, h0, by omega⟩) w hl
        have hdiv : n / 256 % 256 = n / 256 := by omega
        rw [hdiv] at h
        have hM3 : M = 0 ∨ M = 1 ∨ M = 2 := by omega
        rcases hM3 with rfl | rfl | rfl
        · exact h
        · exact h
        · exact h
  · have e2 : checkC b n = #[.string ⟨#[]⟩, .int .i64 0, .int .i64 0] := by unfold checkC; rw [if_neg hw]
    rw [e2] at hC
    have hx : bytesE b n a = wrongD b n ∧ bytesL b n a = [] := by
      unfold bytesE bytesL wrongD at *
      cases hp : placeL.getD b none with
      | none => exact ⟨rfl, rfl⟩
      | some p =>
        rw [hp] at hw
        dsimp only at hw ⊢
        unfold bytesEk bytesLk bytesEk
        by_cases hc : n < 0 ∨ mostD ((p % 13 : Nat) : Int) < n
        · rw [if_pos hc, if_pos hc, if_pos (by decide)]
          exact ⟨rfl, rfl⟩
        · rw [if_neg hc] at hw; exact absurd rfl hw
    rw [hx.1, hx.2]
    exact bytp_wrong b n a _ hw #[] hC w hl
end Go.Proofs.YtpjpoopgafcedaaGreatDoor
