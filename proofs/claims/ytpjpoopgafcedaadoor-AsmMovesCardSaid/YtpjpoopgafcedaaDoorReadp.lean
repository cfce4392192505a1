/-
  Layer 5, the program: the line that bytes begin with, at an address.
-/
import Derived.Test.YtpjpoopgafcedaaDoorBytp
import Derived.Test.YtpjpoopgafcedaaDoorNump
set_option linter.unusedSimpArgs false
set_option linter.unusedVariables false
namespace Go.Proofs.YtpjpoopgafcedaaDoor
open Go.RowKit Go.PlainAid Go.Joins

/-- A slice that holds bytes, and has the room that it says. -/
def HoldsC (w : World) (v : Value) (l : List Int) : Prop := Holds w v l ∧ ∀ p n c, v = .slice p n c → n ≤ c
theorem HoldsC.below {w u : World} {v : Value} {l : List Int} (h : HoldsC w v l) (hb : Below w.heap.size w u) : HoldsC u v l := ⟨h.1.below hb, h.2⟩
theorem holdsC_own {w : World} {base : Nat} {v : Value} {l : List Int} (h : w.ownsRow base 5 1 v l.length (l.map (Value.int .u8))) : HoldsC w v l := by
  refine ⟨holds_own h, fun p n c e => ?_⟩
  rcases h.2 with ⟨h1, h2⟩ | ⟨g, cap, cur, h1, _, _, hn, _⟩
  · rw [h1] at e; cases e; omega
  · rw [h1] at e; cases e; exact hn
/-- How a call ends that answers a line, how many bytes it took, and an error. -/
def ReadEndP (w : World) (o n k E : Int) : Ending → World → Prop := fun e w' =>
  e = .returned (.tuple #[.agg #[.int .u8 o, .int .i64 n], .int .i64 k, .int .i64 E]) ∧ Below w.heap.size w w'
set_option maxRecDepth 100000 in
set_option maxHeartbeats 1000000 in
theorem readp_range (v : Value) (a : Int) (h : fitsD a 1 = false) (w : World) :
    Calls Tryd.prog 18 #[v, .int .i64 a] w (ReadEndP w 0 0 0 10) := by
  have HF := Lib.hid (fun w => fits_c a 1 (by omega) (by omega) w)
  rw [h] at HF
  clear h
  go_enter Tryd.func18, Tryd.ntmps18
  go_wp2_with (go_at_call 39; (with_reducible refine (HF.out _).mono ?_); rintro _ _ ⟨rfl, rfl⟩)
  refine bodyPost_ret (v := .tuple #[.agg #[.int .u8 0, .int .i64 0], .int .i64 0, .int .i64 10]) (by simp [results, Tryd.results18, go_sem]) rfl ⟨rfl, by go_grown⟩
set_option maxRecDepth 100000 in
set_option maxHeartbeats 1000000 in
theorem readp_empty (p : Option Addr) (n c : Nat) (hn : ((n : Int) == 0) = true) (a : Int) (h : fitsD a 1 = true) (w : World) :
    Calls Tryd.prog 18 #[.slice p n c, .int .i64 a] w (ReadEndP w 0 0 0 11) := by
  have HF := Lib.hid (fun w => fits_c a 1 (by omega) (by omega) w)
  rw [h] at HF
  clear h
  go_enter Tryd.func18, Tryd.ntmps18
  go_wp2_with (go_at_call 39; (with_reducible refine (HF.out _).mono ?_); rintro _ _ ⟨rfl, rfl⟩)
  refine bodyPost_ret (v := .tuple #[.agg #[.int .u8 0, .int .i64 0], .int .i64 0, .int .i64 11]) (by simp [results, Tryd.results18, go_sem]) rfl ⟨rfl, by go_grown⟩
set_option maxRecDepth 100000 in
set_option maxHeartbeats 1000000 in
theorem readp_opcode (l : List Int) (b : Nat) (hl : l[0]? = some (b : Int)) (hb : b < 256) (v : Value) (a : Int) (h : fitsD a 1 = true)
    (hO : ∀ w, Calls Tryd.prog 24 #[.int .u8 b] w fun e w' => e = .returned (.tuple #[.agg #[.string ⟨#[]⟩, .int .i64 0, .int .i64 0], .int .i64 13]) ∧ Below w.heap.size w w') (w : World) (hv : Holds w v l) :
    Calls Tryd.prog 18 #[v, .int .i64 a] w (ReadEndP w 0 0 0 13) := by
  have HF := Lib.hid (fun w => fits_c a 1 (by omega) (by omega) w)
  rw [h] at HF
  have HO := Lib.hid hO
  obtain ⟨p, c, rfl, H⟩ := hv.form
  obtain ⟨g, o, rfl, q0⟩ := H 0 b hl
  have hpos : 0 < l.length := first_pos hl
  have e3 : ((l.length : Int) == 0) = false := by rw [beq_eq_false_iff_ne]; omega
  have hin : (0 : Int) ≤ 0 ∧ (0 : Int) < (l.length : Int) := by omega
  rw [Nat.add_zero] at q0
  have HQ := Lib.hid q0
  clear h hO hl H hb hv q0
  go_enter Tryd.func18, Tryd.ntmps18
  have q1 := old_cell HQ.out
  go_wp2_with (go_at_call 39; (with_reducible refine (HF.out _).mono ?_); rintro _ _ ⟨rfl, rfl⟩)
  ((with_reducible refine (HO.out _).mono ?_); rintro _ u ⟨rfl, hb⟩)
  have T : u.cell? ⟨w.heap.size, 0, none⟩ = some (.int .u8 0) ∧ u.frozen? ⟨w.heap.size, 0, none⟩ = false ∧ u.cell? ⟨w.heap.size, 1, none⟩ = some (.int .i64 0) ∧ u.frozen? ⟨w.heap.size, 1, none⟩ = false := by
      refine ⟨?_, ?_, ?_, ?_⟩ <;> first | (refine kc hb ?_ <;> (go_simp; first | done | rfl)) | (refine kfz hb ?_ ?_ <;> first | (go_size; done) | (go_simp; done))
  have hz := hb.size
  (try simp only [World.size_alloc, World.size_setCell, World.size_drew] at hz)
  have hlx' : w.heap.size < u.heap.size := by omega
  have hB' : Below w.heap.size w u := by
      refine kb ?_ hb
      go_grown
  clear hb hz
  obtain ⟨hx_0, fx_0, hx_1, fx_1⟩ := T
  have hlx := hlx'; clear hlx'
  have hnx0 : ¬ (w.heap.size = u.heap.size) := by omega
  have hnx1 : ¬ (w.heap.size = u.heap.size + 1) := by omega
  have hkx1 : w.heap.size < u.heap.size + 1 := by omega
  have hnx2 : ¬ (w.heap.size = u.heap.size + 1 + 1) := by omega
  have hkx2 : w.heap.size < u.heap.size + 1 + 1 := by omega
  have hB := hB'; clear hB'
  have hsz := hB.size
  go_wp2
  obtain ⟨s0, s1, s2⟩ := two_cells hx_0 hx_1
  refine bodyPost_ret (v := .tuple #[.agg #[.int .u8 0, .int .i64 0], .int .i64 0, .int .i64 13]) (by simp [results, Tryd.results18, go_sem, s0, s1, s2, old_cell (s0 _ _), old_cell (s1 _ _)]) rfl ⟨rfl, by go_grown⟩
set_option maxRecDepth 100000 in
set_option maxHeartbeats 1000000 in
theorem readp_short (l : List Int) (b : Nat) (hl : l[0]? = some (b : Int)) (hb : b < 256) (v : Value) (a k K m : Int) (N : ByteArray) (h : fitsD a 1 = true)
    (hO : ∀ w, Calls Tryd.prog 24 #[.int .u8 b] w fun e w' => e = .returned (.tuple #[.agg #[.string N, .int .i64 k, .int .i64 K], .int .i64 0]) ∧ Below w.heap.size w w')
    (hL : ∀ w, Calls Tryd.prog 25 #[.int .i64 k] w fun e w' => e = .returned (.int .i64 m) ∧ Below w.heap.size w w') (hm : (l.length : Int) < m) (w : World) (hv : Holds w v l) :
    Calls Tryd.prog 18 #[v, .int .i64 a] w (ReadEndP w 0 0 0 11) := by
  have HF := Lib.hid (fun w => fits_c a 1 (by omega) (by omega) w)
  rw [h] at HF
  have HO := Lib.hid hO
  have HL := Lib.hid hL
  obtain ⟨p, c, rfl, H⟩ := hv.form
  obtain ⟨g, o, rfl, q0⟩ := H 0 b hl
  have hpos : 0 < l.length := first_pos hl
  have e3 : ((l.length : Int) == 0) = false := by rw [beq_eq_false_iff_ne]; omega
  have hin : (0 : Int) ≤ 0 ∧ (0 : Int) < (l.length : Int) := by omega
  rw [Nat.add_zero] at q0
  have HQ := Lib.hid q0
  have e5 : decide ((l.length : Int) < m) = true := decide_eq_true hm
  clear h hO hL hl H hb hv q0 hm
  go_enter Tryd.func18, Tryd.ntmps18
  have q1 := old_cell HQ.out
  go_wp2_with (go_at_call 39; (with_reducible refine (HF.out _).mono ?_); rintro _ _ ⟨rfl, rfl⟩)
  ((with_reducible refine (HO.out _).mono ?_); rintro _ u ⟨rfl, hb⟩)
  have T : u.cell? ⟨w.heap.size, 0, none⟩ = some (.int .u8 0) ∧ u.frozen? ⟨w.heap.size, 0, none⟩ = false ∧ u.cell? ⟨w.heap.size, 1, none⟩ = some (.int .i64 0) ∧ u.frozen? ⟨w.heap.size, 1, none⟩ = false := by
      refine ⟨?_, ?_, ?_, ?_⟩ <;> first | (refine kc hb ?_ <;> (go_simp; first | done | rfl)) | (refine kfz hb ?_ ?_ <;> first | (go_size; done) | (go_simp; done))
  have hz := hb.size
  (try simp only [World.size_alloc, World.size_setCell, World.size_drew] at hz)
  have hlx' : w.heap.size < u.heap.size := by omega
  have hB' : Below w.heap.size w u := by
      refine kb ?_ hb
      go_grown
  clear hb hz
  obtain ⟨hx_0, fx_0, hx_1, fx_1⟩ := T
  have hlx := hlx'; clear hlx'
  have hnx0 : ¬ (w.heap.size = u.heap.size) := by omega
  have hnx1 : ¬ (w.heap.size = u.heap.size + 1) := by omega
  have hkx1 : w.heap.size < u.heap.size + 1 := by omega
  have hnx2 : ¬ (w.heap.size = u.heap.size + 1 + 1) := by omega
  have hkx2 : w.heap.size < u.heap.size + 1 + 1 := by omega
  have hB := hB'; clear hB'
  have hsz := hB.size
  go_wp2_with fail
  ((with_reducible refine (HL.out _).mono ?_); rintro _ u2 ⟨rfl, hb⟩)
  have T : u2.cell? ⟨w.heap.size, 0, none⟩ = some (.int .u8 0) ∧ u2.frozen? ⟨w.heap.size, 0, none⟩ = false ∧ u2.cell? ⟨w.heap.size, 1, none⟩ = some (.int .i64 0) ∧ u2.frozen? ⟨w.heap.size, 1, none⟩ = false ∧ u2.cell? ⟨u.heap.size, 0, none⟩ = some (.string N) ∧ u2.cell? ⟨u.heap.size, 1, none⟩ = some (.int .i64 k) ∧ u2.cell? ⟨u.heap.size, 2, none⟩ = some (.int .i64 K) := by
      refine ⟨?_, ?_, ?_, ?_, ?_, ?_, ?_⟩ <;> first | (refine kc hb ?_ <;> (go_simp; first | done | rfl)) | (refine kfz hb ?_ ?_ <;> first | (go_size; done) | (go_simp; done))
  have hz := hb.size
  (try simp only [World.size_alloc, World.size_setCell, World.size_drew] at hz)
  have hlx' : w.heap.size < u2.heap.size := by omega
  have hlr' : u.heap.size < u2.heap.size := by omega
  have hB' : Below w.heap.size w u2 := by
      refine kb ?_ hb
      go_grown
  clear hx_0 fx_0 hx_1 fx_1 hlx hnx0 hnx1 hkx1 hnx2 hkx2 hB hsz
  clear hb hz
  obtain ⟨hx_0, fx_0, hx_1, fx_1, hr_0, hr_1, hr_2⟩ := T
  have hlx := hlx'; clear hlx'
  have hlr := hlr'; clear hlr'
  have hnx0 : ¬ (w.heap.size = u2.heap.size) := by omega
  have hnx1 : ¬ (w.heap.size = u2.heap.size + 1) := by omega
  have hkx1 : w.heap.size < u2.heap.size + 1 := by omega
  have hnx2 : ¬ (w.heap.size = u2.heap.size + 1 + 1) := by omega
  have hkx2 : w.heap.size < u2.heap.size + 1 + 1 := by omega
  have hnr0 : ¬ (u.heap.size = u2.heap.size) := by omega
  have hnr1 : ¬ (u.heap.size = u2.heap.size + 1) := by omega
  have hkr1 : u.heap.size < u2.heap.size + 1 := by omega
  have hnr2 : ¬ (u.heap.size = u2.heap.size + 1 + 1) := by omega
  have hkr2 : u.heap.size < u2.heap.size + 1 + 1 := by omega
  have hB := hB'; clear hB'
  have hsz := hB.size
  go_wp2
  obtain ⟨s0, s1, s2⟩ := two_cells hx_0 hx_1
  refine bodyPost_ret (v := .tuple #[.agg #[.int .u8 0, .int .i64 0], .int .i64 0, .int .i64 11]) (by simp [results, Tryd.results18, go_sem, s0, s1, s2, old_cell (s0 _ _), old_cell (s1 _ _)]) rfl ⟨rfl, by go_grown⟩
theorem i8_bounds (x : Int) : -128 ≤ IntKind.i8.wrap x ∧ IntKind.i8.wrap x ≤ 127 := by
  have h : IntKind.i8.wrap x = if x % 256 ≥ 128 then x % 256 - 256 else x % 256 := by simp [IntKind.wrap, IntKind.bits, IntKind.signed]
  rw [h]
  split <;> omega
theorem slice_one (g o n c M : Nat) (h : M + 1 ≤ c) (W : World) : (Instr.slice 38 (.slice (some ⟨g, o, none⟩) n c) (some (.int .i64 1)) (some (.int .i64 ((M + 1 : Nat) : Int))) none).run Tryd.prog W = .ok (.slice (some ⟨g, if c = 1 then o else o + 1, none⟩) M (c - 1)) W := by
  have e2 : (sizeOf (Tryd.prog.elem 38)).run Tryd.prog W = .ok 1 W := by kernel_rfl
  rw [run_slice_lh (t := 38) (ht := by kernel_rfl) (h0 := by omega) (h1 := by omega) (h2 := by omega), e2]
  show Result.ok (Go.sliced (some ⟨g, o, none⟩) 1 (M + 1) c 1) W = _
  unfold Go.sliced
  by_cases hc : c = 1
  · subst hc
    have : M = 0 := by omega
    subst this
    simp
  · simp [hc, Addr.add_lit]
theorem holds_rest {w : World} {g o c : Nat} {l : List Int} (hv : Holds w (.slice (some ⟨g, o, none⟩) l.length c) l) (M : Nat) (hM : M + 1 ≤ l.length) (hc : l.length ≤ c) : Holds w (.slice (some ⟨g, if c = 1 then o else o + 1, none⟩) M (c - 1)) ((l.drop 1).take M) := by
  have hlen : ((l.drop 1).take M).length = M := by rw [List.length_take, List.length_drop]; omega
  refine .inr ⟨g, _, c - 1, by rw [hlen], fun j x hx => ?_⟩
  have hj : j < M := by
    have := (List.getElem?_eq_some_iff.1 hx).1
    omega
  rw [List.getElem?_take, if_pos hj, List.getElem?_drop] at hx
  rw [if_neg (by omega)]
  have := (hv.at).2 (1 + j) x hx
  rw [show o + 1 + j = o + (1 + j) by omega]
  exact this
set_option maxRecDepth 100000 in
set_option maxHeartbeats 4000000 in
theorem readp_all (l : List Int) (b M m : Nat) (hl : l[0]? = some (b : Int)) (hb : b < 256) (hbs : ∀ x ∈ l, 0 ≤ x ∧ x < 256) (v : Value) (a K F : Int) (N : ByteArray) (X Y : Bool) (h : fitsD a 1 = true) (hm : m < 13)
    (hO : ∀ w, Calls Tryd.prog 24 #[.int .u8 b] w fun e w' => e = .returned (.tuple #[.agg #[.string N, .int .i64 m, .int .i64 K], .int .i64 0]) ∧ Below w.heap.size w w')
    (hL : ∀ w, Calls Tryd.prog 25 #[.int .i64 m] w fun e w' => e = .returned (.int .i64 ((M + 1 : Nat) : Int)) ∧ Below w.heap.size w w') (hM : M ≤ 2) (hlen : M + 1 ≤ l.length)
    (hF : (m = 12 ∧ F = a + ((M + 1 : Nat) : Int) + IntKind.i8.wrap (valL ((l.drop 1).take M))) ∨ (m ≠ 12 ∧ F = valL ((l.drop 1).take M)))
    (hX : fitsD a ((M + 1 : Nat) : Int) = X) (hY : (decide (0 ≤ F) && decide (F < ((16 ^ dgP m : Nat) : Int))) = Y) (w : World) (hv : HoldsC w v l) (hld : Laid w) :
    Calls Tryd.prog 18 #[v, .int .i64 a] w (ReadEndP w (if X && Y then b else 0) (if X && Y then F else 0) (if X && Y then ((M + 1 : Nat) : Int) else 0) (if X && Y then 0 else 10)) := by
  obtain ⟨ro, h1⟩ : ∃ ro : Int, (if X && Y then (b : Int) else 0) = ro := ⟨_, rfl⟩
  obtain ⟨rn, h2⟩ : ∃ rn : Int, (if X && Y then F else 0) = rn := ⟨_, rfl⟩
  obtain ⟨rk, h3⟩ : ∃ rk : Int, (if X && Y then ((M + 1 : Nat) : Int) else 0) = rk := ⟨_, rfl⟩
  obtain ⟨re, h4⟩ : ∃ re : Int, (if X && Y then (0 : Int) else 10) = re := ⟨_, rfl⟩
  rw [h1, h2, h3, h4]
  have H1 := Lib.hid h1
  have H2 := Lib.hid h2
  have H3 := Lib.hid h3
  have H4 := Lib.hid h4
  clear h1 h2 h3 h4
  have ha : 0 ≤ a ∧ a ≤ 65535 := by unfold fitsD at h; simp at h; omega
  have HF := Lib.hid (fun w => fits_c a 1 (by omega) (by omega) w)
  rw [h] at HF
  have HF2 := Lib.hid (fun w => fits_c a ((M + 1 : Nat) : Int) (by omega) (by omega) w)
  rw [hX] at HF2
  have HO := Lib.hid hO
  have HL := Lib.hid hL
  have HH := Lib.hid (fun w => holds_c (befP m) (aftP m) (dgP m) (dg_four m hm) F w)
  rw [hY] at HH
  obtain ⟨p, c, rfl, H⟩ := hv.1.form
  obtain ⟨g, o, rfl, q0⟩ := H 0 b hl
  have hcap := hv.2 _ _ _ rfl
  have hv2 := holds_rest hv.1 M hlen hcap
  have qs := fun W => slice_one g o l.length c M (by omega) W
  have hb2 : ∀ x ∈ (l.drop 1).take M, 0 ≤ x ∧ x < 256 := fun x hx => hbs x (List.mem_of_mem_drop (List.mem_of_mem_take hx))
  have HN := Lib.hid (fun W (hw : Below w.heap.size w W) => nump_c ((l.drop 1).take M) (by rw [List.length_take]; omega) hb2 _ W (hv2.below hw))
  generalize (if c = 1 then o else o + 1) = o2 at *
  have hval : 0 ≤ valL ((l.drop 1).take M) ∧ valL ((l.drop 1).take M) ≤ 65535 := by
    generalize (l.drop 1).take M = r at *
    match r, hb2 with
    | [], _ => exact ⟨by decide, by decide⟩
    | [x], hb2 => have := hb2 x (by simp); simp only [valL]; omega
    | x :: y :: r, hb2 => have := hb2 x (by simp); have := hb2 y (by simp); simp only [valL]; omega
  have hi8 : -128 ≤ IntKind.i8.wrap (valL ((l.drop 1).take M)) ∧ IntKind.i8.wrap (valL ((l.drop 1).take M)) ≤ 127 := i8_bounds _
  have w1 : IntKind.i64.wrap (a + ((M + 1 : Nat) : Int)) = a + ((M + 1 : Nat) : Int) := IntWalk.i64_in _ (by omega)
  have w2 : IntKind.i64.wrap (IntKind.i8.wrap (valL ((l.drop 1).take M))) = IntKind.i8.wrap (valL ((l.drop 1).take M)) := IntWalk.i64_in _ (by omega)
  have w3 : IntKind.i64.wrap (a + ((M + 1 : Nat) : Int) + IntKind.i8.wrap (valL ((l.drop 1).take M))) = a + ((M + 1 : Nat) : Int) + IntKind.i8.wrap (valL ((l.drop 1).take M)) := IntWalk.i64_in _ (by omega)
  have hpos : 0 < l.length := first_pos hl
  have e3 : ((l.length : Int) == 0) = false := by rw [beq_eq_false_iff_ne]; omega
  have hin : (0 : Int) ≤ 0 ∧ (0 : Int) < (l.length : Int) := by omega
  rw [Nat.add_zero] at q0
  have HQ := Lib.hid q0
  have e5 : decide ((l.length : Int) < ((M + 1 : Nat) : Int)) = false := decide_eq_false (by omega)
  have k0 := hld.at m 0 hm (by omega)
  have k1 := hld.at m 1 hm (by omega)
  have k2 := hld.at m 2 hm (by omega)
  simp only [Nat.add_zero] at k0
  have hlg : 0 < w.heap.size := by obtain ⟨⟨t, fr, h⟩, _⟩ := hld; exact (Array.getElem?_eq_some_iff.1 h).1
  have hng : ¬ (0 = w.heap.size) := by omega
  have hng1 : ¬ (0 = w.heap.size + 1) := by omega
  have hm13 : (m : Int) < 13 := by omega
  unfold arV at *
  have d0 : (arC m)[0]? = some (.string (txB (befP m))) := rfl
  have d1 : (arC m)[1]? = some (.int .i64 (dgP m)) := rfl
  have d2 : (arC m)[2]? = some (.string (txB (aftP m))) := rfl
  rw [d0] at k0
  rw [d1] at k1
  rw [d2] at k2
  have em : ((m : Int) == 12) = decide (m = 12) := by
    by_cases e : m = 12
    · subst e; rfl
    · rw [decide_eq_false e, beq_eq_false_iff_ne]; omega
  clear d0 d1 d2 hld hX hY h hO hL hl H hbs hv hv2 q0 hb2 hval hi8 ha hcap
  generalize valL ((l.drop 1).take M) = V at *
  generalize ((M + 1 : Nat) : Int) = L at *
  generalize txB (befP m) = S at *
  generalize txB (aftP m) = T at *
  generalize dgP m = D at *
  rcases hF with ⟨hm12, hF⟩ | ⟨hm12, hF⟩
  · rw [decide_eq_true hm12] at em
    clear hm12
    have w4 : IntKind.i64.wrap (a + L + IntKind.i8.wrap V) = F := by rw [w3]; exact hF.symm
    clear w3 hF
    go_enter Tryd.func18, Tryd.ntmps18
    have q1 := old_cell HQ.out
    go_wp2_with (go_at_call 39; (with_reducible refine (HF.out _).mono ?_); rintro _ _ ⟨rfl, rfl⟩)
    ((with_reducible refine (HO.out _).mono ?_); rintro _ u ⟨rfl, hb⟩)
    have T : u.cell? ⟨w.heap.size, 0, none⟩ = some (.int .u8 0) ∧ u.frozen? ⟨w.heap.size, 0, none⟩ = false ∧ u.cell? ⟨w.heap.size, 1, none⟩ = some (.int .i64 0) ∧ u.frozen? ⟨w.heap.size, 1, none⟩ = false ∧ u.cell? ⟨0, m * 3, none⟩ = some (.string S) ∧ u.cell? ⟨0, m * 3 + 1, none⟩ = some (.int .i64 D) ∧ u.cell? ⟨0, m * 3 + 2, none⟩ = some (.string T) := by
        refine ⟨?_, ?_, ?_, ?_, ?_, ?_, ?_⟩ <;> first | (refine kc hb ?_ <;> (go_simp; first | done | rfl)) | (refine kfz hb ?_ ?_ <;> first | (go_size; done) | (go_simp; done))
    have hz := hb.size
    (try simp only [World.size_alloc, World.size_setCell, World.size_drew] at hz)
    have hlx' : w.heap.size < u.heap.size := by omega
    have hlg' : 0 < u.heap.size := by omega
    have hB' : Below w.heap.size w u := by
        refine kb ?_ hb
        go_grown
    clear hb hz
    obtain ⟨hx_0, fx_0, hx_1, fx_1, hg_0, hg_1, hg_2⟩ := T
    have hlx := hlx'; clear hlx'
    have hlg := hlg'; clear hlg'
    have hnx0 : ¬ (w.heap.size = u.heap.size) := by omega
    have hnx1 : ¬ (w.heap.size = u.heap.size + 1) := by omega
    have hkx1 : w.heap.size < u.heap.size + 1 := by omega
    have hnx2 : ¬ (w.heap.size = u.heap.size + 1 + 1) := by omega
    have hkx2 : w.heap.size < u.heap.size + 1 + 1 := by omega
    have hng0 : ¬ (0 = u.heap.size) := by omega
    have hng1 : ¬ (0 = u.heap.size + 1) := by omega
    have hkg1 : 0 < u.heap.size + 1 := by omega
    have hng2 : ¬ (0 = u.heap.size + 1 + 1) := by omega
    have hkg2 : 0 < u.heap.size + 1 + 1 := by omega
    have hB := hB'; clear hB'
    have hsz := hB.size
    go_wp2_with fail
    ((with_reducible refine (HL.out _).mono ?_); rintro _ u2 ⟨rfl, hb⟩)
    have T : u2.cell? ⟨w.heap.size, 0, none⟩ = some (.int .u8 0) ∧ u2.frozen? ⟨w.heap.size, 0, none⟩ = false ∧ u2.cell? ⟨w.heap.size, 1, none⟩ = some (.int .i64 0) ∧ u2.frozen? ⟨w.heap.size, 1, none⟩ = false ∧ u2.cell? ⟨u.heap.size, 0, none⟩ = some (.string N) ∧ u2.cell? ⟨u.heap.size, 1, none⟩ = some (.int .i64 m) ∧ u2.cell? ⟨u.heap.size, 2, none⟩ = some (.int .i64 K) ∧ u2.cell? ⟨0, m * 3, none⟩ = some (.string S) ∧ u2.cell? ⟨0, m * 3 + 1, none⟩ = some (.int .i64 D) ∧ u2.cell? ⟨0, m * 3 + 2, none⟩ = some (.string T) := by
        refine ⟨?_, ?_, ?_, ?_, ?_, ?_, ?_, ?_, ?_, ?_⟩ <;> first | (refine kc hb ?_ <;> (go_simp; first | done | rfl)) | (refine kfz hb ?_ ?_ <;> first | (go_size; done) | (go_simp; done))
    have hz := hb.size
    (try simp only [World.size_alloc, World.size_setCell, World.size_drew] at hz)
    have hlx' : w.heap.size < u2.heap.size := by omega
    have hlr' : u.heap.size < u2.heap.size := by omega
    have hlg' : 0 < u2.heap.size := by omega
    have hB' : Below w.heap.size w u2 := by
        refine kb ?_ hb
        go_grown
    clear hx_0 fx_0 hx_1 fx_1 hg_0 hg_1 hg_2 hlx hlg hnx0 hnx1 hkx1 hnx2 hkx2 hng0 hng1 hkg1 hng2 hkg2 hB hsz
    clear hb hz
    obtain ⟨hx_0, fx_0, hx_1, fx_1, hr_0, hr_1, hr_2, hg_0, hg_1, hg_2⟩ := T
    have hlx := hlx'; clear hlx'
    have hlr := hlr'; clear hlr'
    have hlg := hlg'; clear hlg'
    have hnx0 : ¬ (w.heap.size = u2.heap.size) := by omega
    have hnx1 : ¬ (w.heap.size = u2.heap.size + 1) := by omega
    have hkx1 : w.heap.size < u2.heap.size + 1 := by omega
    have hnx2 : ¬ (w.heap.size = u2.heap.size + 1 + 1) := by omega
    have hkx2 : w.heap.size < u2.heap.size + 1 + 1 := by omega
    have hnr0 : ¬ (u.heap.size = u2.heap.size) := by omega
    have hnr1 : ¬ (u.heap.size = u2.heap.size + 1) := by omega
    have hkr1 : u.heap.size < u2.heap.size + 1 := by omega
    have hnr2 : ¬ (u.heap.size = u2.heap.size + 1 + 1) := by omega
    have hkr2 : u.heap.size < u2.heap.size + 1 + 1 := by omega
    have hng0 : ¬ (0 = u2.heap.size) := by omega
    have hng1 : ¬ (0 = u2.heap.size + 1) := by omega
    have hkg1 : 0 < u2.heap.size + 1 := by omega
    have hng2 : ¬ (0 = u2.heap.size + 1 + 1) := by omega
    have hkg2 : 0 < u2.heap.size + 1 + 1 := by omega
    have hB := hB'; clear hB'
    have hsz := hB.size
    have qq := kc hB HQ.out
    cases X
    · go_wp2_with (first | (go_at_call 41; (with_reducible refine (HN.out _ (by go_grown)).mono ?_); rintro _ _ ⟨rfl, rfl⟩) | (go_at_call 39; (with_reducible refine (HF2.out _).mono ?_); rintro _ _ ⟨rfl, rfl⟩))
      obtain ⟨s0, s1, s2⟩ := two_cells hx_0 hx_1
      have r1 : ro = 0 := H1.out.symm
      have r2 : rn = 0 := H2.out.symm
      have r3 : rk = 0 := H3.out.symm
      have r4 : re = 10 := H4.out.symm
      rw [r1, r2, r3, r4]
      refine bodyPost_ret (v := .tuple #[.agg #[.int .u8 0, .int .i64 0], .int .i64 0, .int .i64 10]) (by simp [results, Tryd.results18, go_sem, s0, s1, s2, old_cell (s0 _ _), old_cell (s1 _ _)]) rfl ⟨rfl, by go_grown⟩
    · go_wp2_with (first | (go_at_call 41; (with_reducible refine (HN.out _ (by go_grown)).mono ?_); rintro _ _ ⟨rfl, rfl⟩) | (go_at_call 39; (with_reducible refine (HF2.out _).mono ?_); rintro _ _ ⟨rfl, rfl⟩))
      ((with_reducible refine (HH.out _).mono ?_); rintro _ u3 ⟨rfl, hb⟩)
      have T : u3.cell? ⟨w.heap.size, 0, none⟩ = some (.int .u8 0) ∧ u3.frozen? ⟨w.heap.size, 0, none⟩ = false ∧ u3.cell? ⟨w.heap.size, 1, none⟩ = some (.int .i64 0) ∧ u3.frozen? ⟨w.heap.size, 1, none⟩ = false ∧ u3.cell? ⟨u.heap.size, 0, none⟩ = some (.string N) ∧ u3.cell? ⟨u.heap.size, 1, none⟩ = some (.int .i64 m) ∧ u3.cell? ⟨u.heap.size, 2, none⟩ = some (.int .i64 K) ∧ u3.cell? ⟨0, m * 3, none⟩ = some (.string S) ∧ u3.cell? ⟨0, m * 3 + 1, none⟩ = some (.int .i64 D) ∧ u3.cell? ⟨0, m * 3 + 2, none⟩ = some (.string T) := by
          refine ⟨?_, ?_, ?_, ?_, ?_, ?_, ?_, ?_, ?_, ?_⟩ <;> first | (refine kc hb ?_ <;> (go_simp; first | done | rfl)) | (refine kfz hb ?_ ?_ <;> first | (go_size; done) | (go_simp; done))
      have hz := hb.size
      (try simp only [World.size_alloc, World.size_setCell, World.size_drew] at hz)
      have hlx' : w.heap.size < u3.heap.size := by omega
      have hlr' : u.heap.size < u3.heap.size := by omega
      have hlg' : 0 < u3.heap.size := by omega
      have hB' : Below w.heap.size w u3 := by
          refine kb ?_ hb
          go_grown
      clear hx_0 fx_0 hx_1 fx_1 hr_0 hr_1 hr_2 hg_0 hg_1 hg_2 hlx hlr hlg hnx0 hnx1 hkx1 hnx2 hkx2 hnr0 hnr1 hkr1 hnr2 hkr2 hng0 hng1 hkg1 hng2 hkg2 hB hsz
      clear hb hz
      obtain ⟨hx_0, fx_0, hx_1, fx_1, hr_0, hr_1, hr_2, hg_0, hg_1, hg_2⟩ := T
      have hlx := hlx'; clear hlx'
      have hlr := hlr'; clear hlr'
      have hlg := hlg'; clear hlg'
      have hnx0 : ¬ (w.heap.size = u3.heap.size) := by omega
      have hnx1 : ¬ (w.heap.size = u3.heap.size + 1) := by omega
      have hkx1 : w.heap.size < u3.heap.size + 1 := by omega
      have hnx2 : ¬ (w.heap.size = u3.heap.size + 1 + 1) := by omega
      have hkx2 : w.heap.size < u3.heap.size + 1 + 1 := by omega
      have hnr0 : ¬ (u.heap.size = u3.heap.size) := by omega
      have hnr1 : ¬ (u.heap.size = u3.heap.size + 1) := by omega
      have hkr1 : u.heap.size < u3.heap.size + 1 := by omega
      have hnr2 : ¬ (u.heap.size = u3.heap.size + 1 + 1) := by omega
      have hkr2 : u.heap.size < u3.heap.size + 1 + 1 := by omega
      have hng0 : ¬ (0 = u3.heap.size) := by omega
      have hng1 : ¬ (0 = u3.heap.size + 1) := by omega
      have hkg1 : 0 < u3.heap.size + 1 := by omega
      have hng2 : ¬ (0 = u3.heap.size + 1 + 1) := by omega
      have hkg2 : 0 < u3.heap.size + 1 + 1 := by omega
      have hB := hB'; clear hB'
      have hsz := hB.size
      have qq2 := kc hB HQ.out
      have qq3 := old_cell qq2
      cases Y
      · go_wp2
        obtain ⟨s0, s1, s2⟩ := two_cells hx_0 hx_1
        have r1 : ro = 0 := H1.out.symm
        have r2 : rn = 0 := H2.out.symm
        have r3 : rk = 0 := H3.out.symm
        have r4 : re = 10 := H4.out.symm
        rw [r1, r2, r3, r4]
        refine bodyPost_ret (v := .tuple #[.agg #[.int .u8 0, .int .i64 0], .int .i64 0, .int .i64 10]) (by simp [results, Tryd.results18, go_sem, s0, s1, s2, old_cell (s0 _ _), old_cell (s1 _ _)]) rfl ⟨rfl, by go_grown⟩
      · go_wp2
        obtain ⟨s0, s1, s2⟩ := two_cells hx_0 hx_1
        have r1 : ro = b := H1.out.symm
        have r2 : rn = F := H2.out.symm
        have r3 : rk = L := H3.out.symm
        have r4 : re = 0 := H4.out.symm
        rw [r1, r2, r3, r4]
        refine bodyPost_ret (v := .tuple #[.agg #[.int .u8 b, .int .i64 F], .int .i64 L, .int .i64 0]) (by simp [results, Tryd.results18, go_sem, s0, s1, s2, old_cell (s0 _ _), old_cell (s1 _ _)]) rfl ⟨rfl, by go_grown⟩
  · rw [decide_eq_false hm12] at em
    clear hm12 w1 w2 w3
    subst hF
    go_enter Tryd.func18, Tryd.ntmps18
    have q1 := old_cell HQ.out
    go_wp2_with (go_at_call 39; (with_reducible refine (HF.out _).mono ?_); rintro _ _ ⟨rfl, rfl⟩)
    ((with_reducible refine (HO.out _).mono ?_); rintro _ u ⟨rfl, hb⟩)
    have T : u.cell? ⟨w.heap.size, 0, none⟩ = some (.int .u8 0) ∧ u.frozen? ⟨w.heap.size, 0, none⟩ = false ∧ u.cell? ⟨w.heap.size, 1, none⟩ = some (.int .i64 0) ∧ u.frozen? ⟨w.heap.size, 1, none⟩ = false ∧ u.cell? ⟨0, m * 3, none⟩ = some (.string S) ∧ u.cell? ⟨0, m * 3 + 1, none⟩ = some (.int .i64 D) ∧ u.cell? ⟨0, m * 3 + 2, none⟩ = some (.string T) := by
        refine ⟨?_, ?_, ?_, ?_, ?_, ?_, ?_⟩ <;> first | (refine kc hb ?_ <;> (go_simp; first | done | rfl)) | (refine kfz hb ?_ ?_ <;> first | (go_size; done) | (go_simp; done))
    have hz := hb.size
    (try simp only [World.size_alloc, World.size_setCell, World.size_drew] at hz)
    have hlx' : w.heap.size < u.heap.size := by omega
    have hlg' : 0 < u.heap.size := by omega
    have hB' : Below w.heap.size w u := by
        refine kb ?_ hb
        go_grown
    clear hb hz
    obtain ⟨hx_0, fx_0, hx_1, fx_1, hg_0, hg_1, hg_2⟩ := T
    have hlx := hlx'; clear hlx'
    have hlg := hlg'; clear hlg'
    have hnx0 : ¬ (w.heap.size = u.heap.size) := by omega
    have hnx1 : ¬ (w.heap.size = u.heap.size + 1) := by omega
    have hkx1 : w.heap.size < u.heap.size + 1 := by omega
    have hnx2 : ¬ (w.heap.size = u.heap.size + 1 + 1) := by omega
    have hkx2 : w.heap.size < u.heap.size + 1 + 1 := by omega
    have hng0 : ¬ (0 = u.heap.size) := by omega
    have hng1 : ¬ (0 = u.heap.size + 1) := by omega
    have hkg1 : 0 < u.heap.size + 1 := by omega
    have hng2 : ¬ (0 = u.heap.size + 1 + 1) := by omega
    have hkg2 : 0 < u.heap.size + 1 + 1 := by omega
    have hB := hB'; clear hB'
    have hsz := hB.size
    go_wp2_with fail
    ((with_reducible refine (HL.out _).mono ?_); rintro _ u2 ⟨rfl, hb⟩)
    have T : u2.cell? ⟨w.heap.size, 0, none⟩ = some (.int .u8 0) ∧ u2.frozen? ⟨w.heap.size, 0, none⟩ = false ∧ u2.cell? ⟨w.heap.size, 1, none⟩ = some (.int .i64 0) ∧ u2.frozen? ⟨w.heap.size, 1, none⟩ = false ∧ u2.cell? ⟨u.heap.size, 0, none⟩ = some (.string N) ∧ u2.cell? ⟨u.heap.size, 1, none⟩ = some (.int .i64 m) ∧ u2.cell? ⟨u.heap.size, 2, none⟩ = some (.int .i64 K) ∧ u2.cell? ⟨0, m * 3, none⟩ = some (.string S) ∧ u2.cell? ⟨0, m * 3 + 1, none⟩ = some (.int .i64 D) ∧ u2.cell? ⟨0, m * 3 + 2, none⟩ = some (.string T) := by
        refine ⟨?_, ?_, ?_, ?_, ?_, ?_, ?_, ?_, ?_, ?_⟩ <;> first | (refine kc hb ?_ <;> (go_simp; first | done | rfl)) | (refine kfz hb ?_ ?_ <;> first | (go_size; done) | (go_simp; done))
    have hz := hb.size
    (try simp only [World.size_alloc, World.size_setCell, World.size_drew] at hz)
    have hlx' : w.heap.size < u2.heap.size := by omega
    have hlr' : u.heap.size < u2.heap.size := by omega
    have hlg' : 0 < u2.heap.size := by omega
    have hB' : Below w.heap.size w u2 := by
        refine kb ?_ hb
        go_grown
    clear hx_0 fx_0 hx_1 fx_1 hg_0 hg_1 hg_2 hlx hlg hnx0 hnx1 hkx1 hnx2 hkx2 hng0 hng1 hkg1 hng2 hkg2 hB hsz
    clear hb hz
    obtain ⟨hx_0, fx_0, hx_1, fx_1, hr_0, hr_1, hr_2, hg_0, hg_1, hg_2⟩ := T
    have hlx := hlx'; clear hlx'
    have hlr := hlr'; clear hlr'
    have hlg := hlg'; clear hlg'
    have hnx0 : ¬ (w.heap.size = u2.heap.size) := by omega
    have hnx1 : ¬ (w.heap.size = u2.heap.size + 1) := by omega
    have hkx1 : w.heap.size < u2.heap.size + 1 := by omega
    have hnx2 : ¬ (w.heap.size = u2.heap.size + 1 + 1) := by omega
    have hkx2 : w.heap.size < u2.heap.size + 1 + 1 := by omega
    have hnr0 : ¬ (u.heap.size = u2.heap.size) := by omega
    have hnr1 : ¬ (u.heap.size = u2.heap.size + 1) := by omega
    have hkr1 : u.heap.size < u2.heap.size + 1 := by omega
    have hnr2 : ¬ (u.heap.size = u2.heap.size + 1 + 1) := by omega
    have hkr2 : u.heap.size < u2.heap.size + 1 + 1 := by omega
    have hng0 : ¬ (0 = u2.heap.size) := by omega
    have hng1 : ¬ (0 = u2.heap.size + 1) := by omega
    have hkg1 : 0 < u2.heap.size + 1 := by omega
    have hng2 : ¬ (0 = u2.heap.size + 1 + 1) := by omega
    have hkg2 : 0 < u2.heap.size + 1 + 1 := by omega
    have hB := hB'; clear hB'
    have hsz := hB.size
    have qq := kc hB HQ.out
    cases X
    · go_wp2_with (first | (go_at_call 41; (with_reducible refine (HN.out _ (by go_grown)).mono ?_); rintro _ _ ⟨rfl, rfl⟩) | (go_at_call 39; (with_reducible refine (HF2.out _).mono ?_); rintro _ _ ⟨rfl, rfl⟩))
      obtain ⟨s0, s1, s2⟩ := two_cells hx_0 hx_1
      have r1 : ro = 0 := H1.out.symm
      have r2 : rn = 0 := H2.out.symm
      have r3 : rk = 0 := H3.out.symm
      have r4 : re = 10 := H4.out.symm
      rw [r1, r2, r3, r4]
      refine bodyPost_ret (v := .tuple #[.agg #[.int .u8 0, .int .i64 0], .int .i64 0, .int .i64 10]) (by simp [results, Tryd.results18, go_sem, s0, s1, s2, old_cell (s0 _ _), old_cell (s1 _ _)]) rfl ⟨rfl, by go_grown⟩
    · go_wp2_with (first | (go_at_call 41; (with_reducible refine (HN.out _ (by go_grown)).mono ?_); rintro _ _ ⟨rfl, rfl⟩) | (go_at_call 39; (with_reducible refine (HF2.out _).mono ?_); rintro _ _ ⟨rfl, rfl⟩))
      ((with_reducible refine (HH.out _).mono ?_); rintro _ u3 ⟨rfl, hb⟩)
      have T : u3.cell? ⟨w.heap.size, 0, none⟩ = some (.int .u8 0) ∧ u3.frozen? ⟨w.heap.size, 0, none⟩ = false ∧ u3.cell? ⟨w.heap.size, 1, none⟩ = some (.int .i64 0) ∧ u3.frozen? ⟨w.heap.size, 1, none⟩ = false ∧ u3.cell? ⟨u.heap.size, 0, none⟩ = some (.string N) ∧ u3.cell? ⟨u.heap.size, 1, none⟩ = some (.int .i64 m) ∧ u3.cell? ⟨u.heap.size, 2, none⟩ = some (.int .i64 K) ∧ u3.cell? ⟨0, m * 3, none⟩ = some (.string S) ∧ u3.cell? ⟨0, m * 3 + 1, none⟩ = some (.int .i64 D) ∧ u3.cell? ⟨0, m * 3 + 2, none⟩ = some (.string T) := by
          refine ⟨?_, ?_, ?_, ?_, ?_, ?_, ?_, ?_, ?_, ?_⟩ <;> first | (refine kc hb ?_ <;> (go_simp; first | done | rfl)) | (refine kfz hb ?_ ?_ <;> first | (go_size; done) | (go_simp; done))
      have hz := hb.size
      (try simp only [World.size_alloc, World.size_setCell, World.size_drew] at hz)
      have hlx' : w.heap.size < u3.heap.size := by omega
      have hlr' : u.heap.size < u3.heap.size := by omega
      have hlg' : 0 < u3.heap.size := by omega
      have hB' : Below w.heap.size w u3 := by
          refine kb ?_ hb
          go_grown
      clear hx_0 fx_0 hx_1 fx_1 hr_0 hr_1 hr_2 hg_0 hg_1 hg_2 hlx hlr hlg hnx0 hnx1 hkx1 hnx2 hkx2 hnr0 hnr1 hkr1 hnr2 hkr2 hng0 hng1 hkg1 hng2 hkg2 hB hsz
      clear hb hz
      obtain ⟨hx_0, fx_0, hx_1, fx_1, hr_0, hr_1, hr_2, hg_0, hg_1, hg_2⟩ := T
      have hlx := hlx'; clear hlx'
      have hlr := hlr'; clear hlr'
      have hlg := hlg'; clear hlg'
      have hnx0 : ¬ (w.heap.size = u3.heap.size) := by omega
      have hnx1 : ¬ (w.heap.size = u3.heap.size + 1) := by omega
      have hkx1 : w.heap.size < u3.heap.size + 1 := by omega
      have hnx2 : ¬ (w.heap.size = u3.heap.size + 1 + 1) := by omega
      have hkx2 : w.heap.size < u3.heap.size + 1 + 1 := by omega
      have hnr0 : ¬ (u.heap.size = u3.heap.size) := by omega
      have hnr1 : ¬ (u.heap.size = u3.heap.size + 1) := by omega
      have hkr1 : u.heap.size < u3.heap.size + 1 := by omega
      have hnr2 : ¬ (u.heap.size = u3.heap.size + 1 + 1) := by omega
      have hkr2 : u.heap.size < u3.heap.size + 1 + 1 := by omega
      have hng0 : ¬ (0 = u3.heap.size) := by omega
      have hng1 : ¬ (0 = u3.heap.size + 1) := by omega
      have hkg1 : 0 < u3.heap.size + 1 := by omega
      have hng2 : ¬ (0 = u3.heap.size + 1 + 1) := by omega
      have hkg2 : 0 < u3.heap.size + 1 + 1 := by omega
      have hB := hB'; clear hB'
      have hsz := hB.size
      have qq2 := kc hB HQ.out
      have qq3 := old_cell qq2
      cases Y
      · go_wp2
        obtain ⟨s0, s1, s2⟩ := two_cells hx_0 hx_1
        have r1 : ro = 0 := H1.out.symm
        have r2 : rn = 0 := H2.out.symm
        have r3 : rk = 0 := H3.out.symm
        have r4 : re = 10 := H4.out.symm
        rw [r1, r2, r3, r4]
        refine bodyPost_ret (v := .tuple #[.agg #[.int .u8 0, .int .i64 0], .int .i64 0, .int .i64 10]) (by simp [results, Tryd.results18, go_sem, s0, s1, s2, old_cell (s0 _ _), old_cell (s1 _ _)]) rfl ⟨rfl, by go_grown⟩
      · go_wp2
        obtain ⟨s0, s1, s2⟩ := two_cells hx_0 hx_1
        have r1 : ro = b := H1.out.symm
        have r2 : rn = F := H2.out.symm
        have r3 : rk = L := H3.out.symm
        have r4 : re = 0 := H4.out.symm
        rw [r1, r2, r3, r4]
        refine bodyPost_ret (v := .tuple #[.agg #[.int .u8 b, .int .i64 F], .int .i64 L, .int .i64 0]) (by simp [results, Tryd.results18, go_sem, s0, s1, s2, old_cell (s0 _ _), old_cell (s1 _ _)]) rfl ⟨rfl, by go_grown⟩
end Go.Proofs.YtpjpoopgafcedaaDoor
