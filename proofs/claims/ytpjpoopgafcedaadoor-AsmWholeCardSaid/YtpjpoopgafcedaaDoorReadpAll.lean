/-
  Layer 5, the program: the number that bytes are, the lowest one first.
  Layer 5, the program: the line that bytes begin with, at an address.
  Layer 5, the program: Read, one contract.
-/
import Derived.Test.YtpjpoopgafcedaaDoorSame
import Derived.Test.YtpjpoopgafcedaaDoorReadAll
import Derived.Laws.Bits64b
import Derived.Test.YtpjpoopgafcedaaDoorBytp
set_option linter.unusedSimpArgs false
set_option linter.unusedVariables false
namespace Go.Proofs.YtpjpoopgafcedaaDoor
open Go.RowKit Go.PlainAid Go.Joins

theorem or_i64_nat (a b : Nat) (ha : a < 65536) (hb : b < 65536) : bits .or .i64 (a : Int) (b : Int) = ((a ||| b : Nat) : Int) := by
  have hx : a ||| b < 2 ^ 16 := Nat.or_lt_two_pow (by omega) (by omega)
  have h1 : (BitVec.ofInt 64 (a : Int)).toNat = a := by
    rw [BitVec.ofInt_natCast, BitVec.toNat_ofNat]; exact Nat.mod_eq_of_lt (by omega)
  have h2 : (BitVec.ofInt 64 (b : Int)).toNat = b := by
    rw [BitVec.ofInt_natCast, BitVec.toNat_ofNat]; exact Nat.mod_eq_of_lt (by omega)
  show IntKind.i64.wrap ((BitVec.ofInt 64 (a : Int) ||| BitVec.ofInt 64 (b : Int)).toNat : Int) = _
  rw [BitVec.toNat_or, h1, h2]
  exact IntWalk.i64_in _ (by omega)
theorem or_zero (x : Int) (h0 : 0 ≤ x) (h1 : x < 256) : bits .or .i64 0 x = x := by
  obtain ⟨n, rfl⟩ : ∃ n : Nat, x = n := ⟨x.toNat, by omega⟩
  have := or_i64_nat 0 n (by omega) (by omega)
  rw [Nat.zero_or] at this
  exact this
theorem or_high (x y : Int) (h0 : 0 ≤ x) (h1 : x < 256) (h2 : 0 ≤ y) (h3 : y < 256) : bits .or .i64 x (y * 256) = x + 256 * y := by
  obtain ⟨n, rfl⟩ : ∃ n : Nat, x = n := ⟨x.toNat, by omega⟩
  obtain ⟨m, rfl⟩ : ∃ m : Nat, y = m := ⟨y.toNat, by omega⟩
  have e : n ||| (m * 256) = m * 256 + n := by
    have := Nat.shiftLeft_add_eq_or_of_lt (show n < 2 ^ 8 by omega) m
    rw [Nat.shiftLeft_eq] at this
    rw [Nat.or_comm]
    exact this.symm
  have := or_i64_nat n (m * 256) (by omega) (by omega)
  rw [e] at this
  rw [show ((m : Int) * 256) = ((m * 256 : Nat) : Int) by omega, this]
  omega
/-- The number of at most two bytes. -/
def valL : List Int → Int
  | [] => 0
  | [x] => x
  | x :: y :: _ => x + 256 * y
set_option maxRecDepth 100000 in
set_option maxHeartbeats 1000000 in
theorem nump_c (l : List Int) (hl : l.length ≤ 2) (hb : ∀ x ∈ l, 0 ≤ x ∧ x < 256) (v : Value) (w : World) (hv : Holds w v l) :
    Calls Tryd.prog 41 #[v] w fun e w' => e = .returned (.int .i64 (valL l)) ∧ w = w' := by
  obtain ⟨p, c, rfl, H⟩ := hv.form
  clear hv
  have HH := Lib.hid H
  have HB := Lib.hid hb
  have HL := Lib.hid hl
  clear H hb
  go_enter Tryd.func41, Tryd.ntmps41
  go_wp2
  go_loopw [3, 7] (fun n i wr => ∃ (j : Nat) (J N : Int), j ≤ l.length ∧ i = .int .i64 J ∧ n = .int .i64 N ∧ Hid (J = j ∧ N = valL (l.take j)) ∧ w = wr) (fun _ i _ => l.length - (intOf i).toNat)
  case atStart => exact ⟨0, 0, 0, by omega, rfl, rfl, Lib.hid ⟨rfl, rfl⟩, rfl⟩
  case round =>
    obtain ⟨j, J, N, hj, rfl, rfl, HJ, rfl⟩ := hrel
    obtain ⟨hJ, hN⟩ := HJ.out
    by_cases hlt : j < l.length
    · have hd : decide (J < (l.length : Int)) = true := decide_eq_true (by omega)
      have hx := getElem_pair hlt
      obtain ⟨g, o, rfl, hc⟩ := HH.out j _ hx
      have hb1 := HB.out _ (List.getElem_mem hlt)
      have hj2 : J = 0 ∧ j = 0 ∨ J = 1 ∧ j = 1 := by have := HL.out; omega
      rcases hj2 with ⟨rfl, rfl⟩ | ⟨rfl, rfl⟩
      · have hz : N = 0 := by rw [hN]; rfl
        have hV : valL (l.take 1) = l[0] := by
          match l, hlt with
          | x :: r, _ => rfl
        have h01 : (0 : Int) < (l.length : Int) := by omega
        generalize l[0] = X at *
        have o1 := or_zero X hb1.1 hb1.2
        have w1 : IntKind.i64.wrap X = X := IntWalk.i64_in _ (by omega)
        subst hz
        have HV := Lib.hid hV
        clear hV hN hx HJ hJ
        simp only [Nat.add_zero] at hc
        go_wp2
        go_roundw
        case rel => exact ⟨1, 1, X, by omega, rfl, rfl, Lib.hid ⟨rfl, HV.out.symm⟩, trivial⟩
        case measure => simp [intOf]; omega
      · obtain ⟨x, y, hxy⟩ : ∃ x y, l = [x, y] := by
          have := HL.out
          match l, hlt, this with
          | [x, y], _, _ => exact ⟨x, y, rfl⟩
        subst hxy
        have hz : N = x := by rw [hN]; rfl
        have hb0 := HB.out x (by simp)
        have o1 := or_high x y hb0.1 hb0.2 hb1.1 hb1.2
        have w1 : IntKind.i64.wrap (y * 256) = y * 256 := IntWalk.i64_in _ (by have := hb1.1; have := hb1.2; simp at *; omega)
        have w2 : IntKind.i64.wrap y = y := IntWalk.i64_in _ (by have := hb1.1; have := hb1.2; simp at *; omega)
        subst hz
        clear hN hx HJ hJ
        simp only [List.getElem_cons_succ, List.getElem_cons_zero] at hc hb1
        go_wp2
        go_roundw
        case rel => exact ⟨2, 2, N + 256 * y, by simp, rfl, by go_num, Lib.hid ⟨rfl, rfl⟩, trivial⟩
        case measure => simp [intOf]
    · have hjm : j = l.length := by omega
      have hd : decide (J < (l.length : Int)) = false := decide_eq_false (by omega)
      rw [hjm, List.take_length] at hN
      have HV := Lib.hid hN
      clear hN hJ HJ
      go_wp2
      go_ret
      exact ⟨ret_i64 (by rw [HV.out]), rfl⟩
end Go.Proofs.YtpjpoopgafcedaaDoor
set_option linter.unusedSimpArgs false
set_option linter.unusedVariables false
namespace Go.Proofs.YtpjpoopgafcedaaDoor
open Go.RowKit Go.PlainAid Go.Joins

/-- A slice that holds bytes, and has the room that it says. -/
def HoldsC (w : World) (v : Value) (l : List Int) : Prop := Holds w v l ∧ ∀ p n c, v = .slice p n c → n ≤ c
theorem HoldsC.below {w u : World} {v : Value} {l : List Int} (h : HoldsC w v l) (hb : Below w.heap.size w u) : HoldsC u v l := ⟨h.1.below hb, h.2⟩
theorem holdsC_own {w : World} {base : Nat} {v : Value} {l : List Int} (h : w.ownsRow base 5 1 v l.length (l.map (Value.int .u8))) : HoldsC w v l := by
  refine ⟨holds_own h, fun p n c e => ?_⟩
  rcases h.2 with ⟨h1, h2⟩ | ⟨g, cap, cur, h1, _, _, hn, _⟩
  · rw [h1] at e; cases e; omega
  · rw [h1] at e; cases e; exact hn
/-- How a call ends that answers a line, how many bytes it took, and an error. -/
def ReadEndP (w : World) (o n k E : Int) : Ending → World → Prop := fun e w' =>
  e = .returned (.tuple #[.agg #[.int .u8 o, .int .i64 n], .int .i64 k, .int .i64 E]) ∧ Below w.heap.size w w'
set_option maxRecDepth 100000 in
set_option maxHeartbeats 1000000 in
theorem readp_range (v : Value) (a : Int) (h : fitsD a 1 = false) (w : World) :
    Calls Tryd.prog 18 #[v, .int .i64 a] w (ReadEndP w 0 0 0 10) := by
  have HF := Lib.hid (fun w => fits_c a 1 (by omega) (by omega) w)
  rw [h] at HF
  clear h
  go_enter Tryd.func18, Tryd.ntmps18
  go_wp2_with (go_at_call 39; (with_reducible refine (HF.out _).mono ?_); rintro _ _ ⟨rfl, rfl⟩)
  refine bodyPost_ret (v := .tuple #[.agg #[.int .u8 0, .int .i64 0], .int .i64 0, .int .i64 10]) (by simp [results, Tryd.results18, go_sem]) rfl ⟨rfl, by go_grown⟩
set_option maxRecDepth 100000 in
set_option maxHeartbeats 1000000 in
theorem readp_empty (p : Option Addr) (n c : Nat) (hn : ((n : Int) == 0) = true) (a : Int) (h : fitsD a 1 = true) (w : World) :
    Calls Tryd.prog 18 #[.slice p n c, .int .i64 a] w (ReadEndP w 0 0 0 11) := by
  have HF := Lib.hid (fun w => fits_c a 1 (by omega) (by omega) w)
  rw [h] at HF
  clear h
  go_enter Tryd.func18, Tryd.ntmps18
  go_wp2_with (go_at_call 39; (with_reducible refine (HF.out _).mono ?_); rintro _ _ ⟨rfl, rfl⟩)
  refine bodyPost_ret (v := .tuple #[.agg #[.int .u8 0, .int .i64 0], .int .i64 0, .int .i64 11]) (by simp [results, Tryd.results18, go_sem]) rfl ⟨rfl, by go_grown⟩
set_option maxRecDepth 100000 in
set_option maxHeartbeats 1000000 in
theorem readp_opcode (l : List Int) (b : Nat) (hl : l[0]? = some (b : Int)) (hb : b < 256) (v : Value) (a : Int) (h : fitsD a 1 = true)
    (hO : ∀ w, Calls Tryd.prog 24 #[.int .u8 b] w fun e w' => e = .returned (.tuple #[.agg #[.string ⟨#[]⟩, .int .i64 0, .int .i64 0], .int .i64 13]) ∧ Below w.heap.size w w') (w : World) (hv : Holds w v l) :
    Calls Tryd.prog 18 #[v, .int .i64 a] w (ReadEndP w 0 0 0 13) := by
  have HF := Lib.hid (fun w => fits_c a 1 (by omega) (by omega) w)
  rw [h] at HF
  have HO := Lib.hid hO
  obtain ⟨p, c, rfl, H⟩ := hv.form
  obtain ⟨g, o, rfl, q0⟩ := H 0 b hl
  have hpos : 0 < l.length := first_pos hl
  have e3 : ((l.length : Int) == 0) = false := by rw [beq_eq_false_iff_ne]; omega
  have hin : (0 : Int) ≤ 0 ∧ (0 : Int) < (l.length : Int) := by omega
  rw [Nat.add_zero] at q0
  have HQ := Lib.hid q0
  clear h hO hl H hb hv q0
  go_enter Tryd.func18, Tryd.ntmps18
  have q1 := old_cell HQ.out
  go_wp2_with (go_at_call 39; (with_reducible refine (HF.out _).mono ?_); rintro _ _ ⟨rfl, rfl⟩)
  ((with_reducible refine (HO.out _).mono ?_); rintro _ u ⟨rfl, hb⟩)
  have T : u.cell? ⟨w.heap.size, 0, none⟩ = some (.int .u8 0) ∧ u.frozen? ⟨w.heap.size, 0, none⟩ = false ∧ u.cell? ⟨w.heap.size, 1, none⟩ = some (.int .i64 0) ∧ u.frozen? ⟨w.heap.size, 1, none⟩ = false := by
      refine ⟨?_, ?_, ?_, ?_⟩ <;> first | (refine kc hb ?_ <;> (go_simp; first | done | rfl)) | (refine kfz hb ?_ ?_ <;> first | (go_size; done) | (go_simp; done))
  have hz := hb.size
  (try simp only [World.size_alloc, World.size_setCell, World.size_drew] at hz)
  have hlx' : w.heap.size < u.heap.size := by omega
  have hB' : Below w.heap.size w u := by
      refine kb ?_ hb
      go_grown
  clear hb hz
  obtain ⟨hx_0, fx_0, hx_1, fx_1⟩ := T
  have hlx := hlx'; clear hlx'
  have hnx0 : ¬ (w.heap.size = u.heap.size) := by omega
  have hnx1 : ¬ (w.heap.size = u.heap.size + 1) := by omega
  have hkx1 : w.heap.size < u.heap.size + 1 := by omega
  have hnx2 : ¬ (w.heap.size = u.heap.size + 1 + 1) := by omega
  have hkx2 : w.heap.size < u.heap.size + 1 + 1 := by omega
  have hB := hB'; clear hB'
  have hsz := hB.size
  go_wp2
  obtain ⟨s0, s1, s2⟩ := two_cells hx_0 hx_1
  refine bodyPost_ret (v := .tuple #[.agg #[.int .u8 0, .int .i64 0], .int .i64 0, .int .i64 13]) (by simp [results, Tryd.results18, go_sem, s0, s1, s2, old_cell (s0 _ _), old_cell (s1 _ _)]) rfl ⟨rfl, by go_grown⟩
set_option maxRecDepth 100000 in
set_option maxHeartbeats 1000000 in
theorem readp_short (l : List Int) (b : Nat) (hl : l[0]? = some (b : Int)) (hb : b < 256) (v : Value) (a k K m : Int) (N : ByteArray) (h : fitsD a 1 = true)
    (hO : ∀ w, Calls Tryd.prog 24 #[.int .u8 b] w fun e w' => e = .returned (.tuple #[.agg #[.string N, .int .i64 k, .int .i64 K], .int .i64 0]) ∧ Below w.heap.size w w')
    (hL : ∀ w, Calls Tryd.prog 25 #[.int .i64 k] w fun e w' => e = .returned (.int .i64 m) ∧ Below w.heap.size w w') (hm : (l.length : Int) < m) (w : World) (hv : Holds w v l) :
    Calls Tryd.prog 18 #[v, .int .i64 a] w (ReadEndP w 0 0 0 11) := by
  have HF := Lib.hid (fun w => fits_c a 1 (by omega) (by omega) w)
  rw [h] at HF
  have HO := Lib.hid hO
  have HL := Lib.hid hL
  obtain ⟨p, c, rfl, H⟩ := hv.form
  obtain ⟨g, o, rfl, q0⟩ := H 0 b hl
  have hpos : 0 < l.length := first_pos hl
  have e3 : ((l.length : Int) == 0) = false := by rw [beq_eq_false_iff_ne]; omega
  have hin : (0 : Int) ≤ 0 ∧ (0 : Int) < (l.length : Int) := by omega
  rw [Nat.add_zero] at q0
  have HQ := Lib.hid q0
  have e5 : decide ((l.length : Int) < m) = true := decide_eq_true hm
  clear h hO hL hl H hb hv q0 hm
  go_enter Tryd.func18, Tryd.ntmps18
  have q1 := old_cell HQ.out
  go_wp2_with (go_at_call 39; (with_reducible refine (HF.out _).mono ?_); rintro _ _ ⟨rfl, rfl⟩)
  ((with_reducible refine (HO.out _).mono ?_); rintro _ u ⟨rfl, hb⟩)
  have T : u.cell? ⟨w.heap.size, 0, none⟩ = some (.int .u8 0) ∧ u.frozen? ⟨w.heap.size, 0, none⟩ = false ∧ u.cell? ⟨w.heap.size, 1, none⟩ = some (.int .i64 0) ∧ u.frozen? ⟨w.heap.size, 1, none⟩ = false := by
      refine ⟨?_, ?_, ?_, ?_⟩ <;> first | (refine kc hb ?_ <;> (go_simp; first | done | rfl)) | (refine kfz hb ?_ ?_ <;> first | (go_size; done) | (go_simp; done))
  have hz := hb.size
  (try simp only [World.size_alloc, World.size_setCell, World.size_drew] at hz)
  have hlx' : w.heap.size < u.heap.size := by omega
  have hB' : Below w.heap.size w u := by
      refine kb ?_ hb
      go_grown
  clear hb hz
  obtain ⟨hx_0, fx_0, hx_1, fx_1⟩ := T
  have hlx := hlx'; clear hlx'
  have hnx0 : ¬ (w.heap.size = u.heap.size) := by omega
  have hnx1 : ¬ (w.heap.size = u.heap.size + 1) := by omega
  have hkx1 : w.heap.size < u.heap.size + 1 := by omega
  have hnx2 : ¬ (w.heap.size = u.heap.size + 1 + 1) := by omega
  have hkx2 : w.heap.size < u.heap.size + 1 + 1 := by omega
  have hB := hB'; clear hB'
  have hsz := hB.size
  go_wp2_with fail
  ((with_reducible refine (HL.out _).mono ?_); rintro _ u2 ⟨rfl, hb⟩)
  have T : u2.cell? ⟨w.heap.size, 0, none⟩ = some (.int .u8 0) ∧ u2.frozen? ⟨w.heap.size, 0, none⟩ = false ∧ u2.cell? ⟨w.heap.size, 1, none⟩ = some (.int .i64 0) ∧ u2.frozen? ⟨w.heap.size, 1, none⟩ = false ∧ u2.cell? ⟨u.heap.size, 0, none⟩ = some (.string N) ∧ u2.cell? ⟨u.heap.size, 1, none⟩ = some (.int .i64 k) ∧ u2.cell? ⟨u.heap.size, 2, none⟩ = some (.int .i64 K) := by
      refine ⟨?_, ?_, ?_, ?_, ?_, ?_, ?_⟩ <;> first | (refine kc hb ?_ <;> (go_simp; first | done | rfl)) | (refine kfz hb ?_ ?_ <;> first | (go_size; done) | (go_simp; done))
  have hz := hb.size
  (try simp only [World.size_alloc, World.size_setCell, World.size_drew] at hz)
  have hlx' : w.heap.size < u2.heap.size := by omega
  have hlr' : u.heap.size < u2.heap.size := by omega
  have hB' : Below w.heap.size w u2 := by
      refine kb ?_ hb
      go_grown
  clear hx_0 fx_0 hx_1 fx_1 hlx hnx0 hnx1 hkx1 hnx2 hkx2 hB hsz
  clear hb hz
  obtain ⟨hx_0, fx_0, hx_1, fx_1, hr_0, hr_1, hr_2⟩ := T
  have hlx := hlx'; clear hlx'
  have hlr := hlr'; clear hlr'
  have hnx0 : ¬ (w.heap.size = u2.heap.size) := by omega
  have hnx1 : ¬ (w.heap.size = u2.heap.size + 1) := by omega
  have hkx1 : w.heap.size < u2.heap.size + 1 := by omega
  have hnx2 : ¬ (w.heap.size = u2.heap.size + 1 + 1) := by omega
  have hkx2 : w.heap.size < u2.heap.size + 1 + 1 := by omega
  have hnr0 : ¬ (u.heap.size = u2.heap.size) := by omega
  have hnr1 : ¬ (u.heap.size = u2.heap.size + 1) := by omega
  have hkr1 : u.heap.size < u2.heap.size + 1 := by omega
  have hnr2 : ¬ (u.heap.size = u2.heap.size + 1 + 1) := by omega
  have hkr2 : u.heap.size < u2.heap.size + 1 + 1 := by omega
  have hB := hB'; clear hB'
  have hsz := hB.size
  go_wp2
  obtain ⟨s0, s1, s2⟩ := two_cells hx_0 hx_1
  refine bodyPost_ret (v := .tuple #[.agg #[.int .u8 0, .int .i64 0], .int .i64 0, .int .i64 11]) (by simp [results, Tryd.results18, go_sem, s0, s1, s2, old_cell (s0 _ _), old_cell (s1 _ _)]) rfl ⟨rfl, by go_grown⟩
theorem i8_bounds (x : Int) : -128 ≤ IntKind.i8.wrap x ∧ IntKind.i8.wrap x ≤ 127 := by
  have h : IntKind.i8.wrap x = if x % 256 ≥ 128 then x % 256 - 256 else x % 256 := by simp [IntKind.wrap, IntKind.bits, IntKind.signed]
  rw [h]
  split <;> omega
theorem slice_one (g o n c M : Nat) (h : M + 1 ≤ c) (W : World) : (Instr.slice 38 (.slice (some ⟨g, o, none⟩) n c) (some (.int .i64 1)) (some (.int .i64 ((M + 1 : Nat) : Int))) none).run Tryd.prog W = .ok (.slice (some ⟨g, if c = 1 then o else o + 1, none⟩) M (c - 1)) W := by
  have e2 : (sizeOf (Tryd.prog.elem 38)).run Tryd.prog W = .ok 1 W := by kernel_rfl
  rw [run_slice_lh (t := 38) (ht := by kernel_rfl) (h0 := by omega) (h1 := by omega) (h2 := by omega), e2]
  show Result.ok (Go.sliced (some ⟨g, o, none⟩) 1 (M + 1) c 1) W = _
  unfold Go.sliced
  by_cases hc : c = 1
  · subst hc
    have : M = 0 := by omega
    subst this
    simp
  · simp [hc, Addr.add_lit]
theorem holds_rest {w : World} {g o c : Nat} {l : List Int} (hv : Holds w (.slice (some ⟨g, o, none⟩) l.length c) l) (M : Nat) (hM : M + 1 ≤ l.length) (hc : l.length ≤ c) : Holds w (.slice (some ⟨g, if c = 1 then o else o + 1, none⟩) M (c - 1)) ((l.drop 1).take M) := by
  have hlen : ((l.drop 1).take M).length = M := by rw [List.length_take, List.length_drop]; omega
  refine .inr ⟨g, _, c - 1, by rw [hlen], fun j x hx => ?_⟩
  have hj : j < M := by
    have := (List.getElem?_eq_some_iff.1 hx).1
    omega
  rw [List.getElem?_take, if_pos hj, List.getElem?_drop] at hx
  rw [if_neg (by omega)]
  have := (hv.at).2 (1 + j) x hx
  rw [show o + 1 + j = o + (1 + j) by omega]
  exact this
set_option maxRecDepth 100000 in
set_option maxHeartbeats 4000000 in
theorem readp_all (l : List Int) (b M m : Nat) (hl : l[0]? = some (b : Int)) (hb : b < 256) (hbs : ∀ x ∈ l, 0 ≤ x ∧ x < 256) (v : Value) (a K F : Int) (N : ByteArray) (X Y : Bool) (h : fitsD a 1 = true) (hm : m < 13)
    (hO : ∀ w, Calls Tryd.prog 24 #[.int .u8 b] w fun e w' => e = .returned (.tuple #[.agg #[.string N, .int .i64 m, .int .i64 K], .int .i64 0]) ∧ Below w.heap.size w w')
    (hL : ∀ w, Calls Tryd.prog 25 #[.int .i64 m] w fun e w' => e = .returned (.int .i64 ((M + 1 : Nat) : Int)) ∧ Below w.heap.size w w') (hM : M ≤ 2) (hlen : M + 1 ≤ l.length)
    (hF : (m = 12 ∧ F = a + ((M + 1 : Nat) : Int) + IntKind.i8.wrap (valL ((l.drop 1).take M))) ∨ (m ≠ 12 ∧ F = valL ((l.drop 1).take M)))
    (hX : fitsD a ((M + 1 : Nat) : Int) = X) (hY : (decide (0 ≤ F) && decide (F < ((16 ^ dgP m : Nat) : Int))) = Y) (w : World) (hv : HoldsC w v l) (hld : Laid w) :
    Calls Tryd.prog 18 #[v, .int .i64 a] w (ReadEndP w (if X && Y then b else 0) (if X && Y then F else 0) (if X && Y then ((M + 1 : Nat) : Int) else 0) (if X && Y then 0 else 10)) := by
  obtain ⟨ro, h1⟩ : ∃ ro : Int, (if X && Y then (b : Int) else 0) = ro := ⟨_, rfl⟩
  obtain ⟨rn, h2⟩ : ∃ rn : Int, (if X && Y then F else 0) = rn := ⟨_, rfl⟩
  obtain ⟨rk, h3⟩ : ∃ rk : Int, (if X && Y then ((M + 1 : Nat) : Int) else 0) = rk := ⟨_, rfl⟩
  obtain ⟨re, h4⟩ : ∃ re : Int, (if X && Y then (0 : Int) else 10) = re := ⟨_, rfl⟩
  rw [h1, h2, h3, h4]
  have H1 := Lib.hid h1
  have H2 := Lib.hid h2
  have H3 := Lib.hid h3
  have H4 := Lib.hid h4
  clear h1 h2 h3 h4
  have ha : 0 ≤ a ∧ a ≤ 65535 := by unfold fitsD at h; simp at h; omega
  have HF := Lib.hid (fun w => fits_c a 1 (by omega) (by omega) w)
  rw [h] at HF
  have HF2 := Lib.hid (fun w => fits_c a ((M + 1 : Nat) : Int) (by omega) (by omega) w)
  rw [hX] at HF2
  have HO := Lib.hid hO
  have HL := Lib.hid hL
  have HH := Lib.hid (fun w => holds_c (befP m) (aftP m) (dgP m) (dg_four m hm) F w)
  rw [hY] at HH
  obtain ⟨p, c, rfl, H⟩ := hv.1.form
  obtain ⟨g, o, rfl, q0⟩ := H 0 b hl
  have hcap := hv.2 _ _ _ rfl
  have hv2 := holds_rest hv.1 M hlen hcap
  have qs := fun W => slice_one g o l.length c M (by omega) W
  have hb2 : ∀ x ∈ (l.drop 1).take M, 0 ≤ x ∧ x < 256 := fun x hx => hbs x (List.mem_of_mem_drop (List.mem_of_mem_take hx))
  have HN := Lib.hid (fun W (hw : Below w.heap.size w W) => nump_c ((l.drop 1).take M) (by rw [List.length_take]; omega) hb2 _ W (hv2.below hw))
  generalize (if c = 1 then o else o + 1) = o2 at *
  have hval : 0 ≤ valL ((l.drop 1).take M) ∧ valL ((l.drop 1).take M) ≤ 65535 := by
    generalize (l.drop 1).take M = r at *
    match r, hb2 with
    | [], _ => exact ⟨by decide, by decide⟩
    | [x], hb2 => have := hb2 x (by simp); simp only [valL]; omega
    | x :: y :: r, hb2 => have := hb2 x (by simp); have := hb2 y (by simp); simp only [valL]; omega
  have hi8 : -128 ≤ IntKind.i8.wrap (valL ((l.drop 1).take M)) ∧ IntKind.i8.wrap (valL ((l.drop 1).take M)) ≤ 127 := i8_bounds _
  have w1 : IntKind.i64.wrap (a + ((M + 1 : Nat) : Int)) = a + ((M + 1 : Nat) : Int) := IntWalk.i64_in _ (by omega)
  have w2 : IntKind.i64.wrap (IntKind.i8.wrap (valL ((l.drop 1).take M))) = IntKind.i8.wrap (valL ((l.drop 1).take M)) := IntWalk.i64_in _ (by omega)
  have w3 : IntKind.i64.wrap (a + ((M + 1 : Nat) : Int) + IntKind.i8.wrap (valL ((l.drop 1).take M))) = a + ((M + 1 : Nat) : Int) + IntKind.i8.wrap (valL ((l.drop 1).take M)) := IntWalk.i64_in _ (by omega)
  have hpos : 0 < l.length := first_pos hl
  have e3 : ((l.length : Int) == 0) = false := by rw [beq_eq_false_iff_ne]; omega
  have hin : (0 : Int) ≤ 0 ∧ (0 : Int) < (l.length : Int) := by omega
  rw [Nat.add_zero] at q0
  have HQ := Lib.hid q0
  have e5 : decide ((l.length : Int) < ((M + 1 : Nat) : Int)) = false := decide_eq_false (by omega)
  have k0 := hld.at m 0 hm (by omega)
  have k1 := hld.at m 1 hm (by omega)
  have k2 := hld.at m 2 hm (by omega)
  simp only [Nat.add_zero] at k0
  have hlg : 0 < w.heap.size := by obtain ⟨⟨t, fr, h⟩, _⟩ := hld; exact (Array.getElem?_eq_some_iff.1 h).1
  have hng : ¬ (0 = w.heap.size) := by omega
  have hng1 : ¬ (0 = w.heap.size + 1) := by omega
  have hm13 : (m : Int) < 13 := by omega
  unfold arV at *
  have d0 : (arC m)[0]? = some (.string (txB (befP m))) := rfl
  have d1 : (arC m)[1]? = some (.int .i64 (dgP m)) := rfl
  have d2 : (arC m)[2]? = some (.string (txB (aftP m))) := rfl
  rw [d0] at k0
  rw [d1] at k1
  rw [d2] at k2
  have em : ((m : Int) == 12) = decide (m = 12) := by
    by_cases e : m = 12
    · subst e; rfl
    · rw [decide_eq_false e, beq_eq_false_iff_ne]; omega
  clear d0 d1 d2 hld hX hY h hO hL hl H hbs hv hv2 q0 hb2 hval hi8 ha hcap
  generalize valL ((l.drop 1).take M) = V at *
  generalize ((M + 1 : Nat) : Int) = L at *
  generalize txB (befP m) = S at *
  generalize txB (aftP m) = T at *
  generalize dgP m = D at *
  rcases hF with ⟨hm12, hF⟩ | ⟨hm12, hF⟩
  · rw [decide_eq_true hm12] at em
    clear hm12
    have w4 : IntKind.i64.wrap (a + L + IntKind.i8.wrap V) = F := by rw [w3]; exact hF.symm
    clear w3 hF
    go_enter Tryd.func18, Tryd.ntmps18
    have q1 := old_cell HQ.out
    go_wp2_with (go_at_call 39; (with_reducible refine (HF.out _).mono ?_); rintro _ _ ⟨rfl, rfl⟩)
    ((with_reducible refine (HO.out _).mono ?_); rintro _ u ⟨rfl, hb⟩)
    have T : u.cell? ⟨w.heap.size, 0, none⟩ = some (.int .u8 0) ∧ u.frozen? ⟨w.heap.size, 0, none⟩ = false ∧ u.cell? ⟨w.heap.size, 1, none⟩ = some (.int .i64 0) ∧ u.frozen? ⟨w.heap.size, 1, none⟩ = false ∧ u.cell? ⟨0, m * 3, none⟩ = some (.string S) ∧ u.cell? ⟨0, m * 3 + 1, none⟩ = some (.int .i64 D) ∧ u.cell? ⟨0, m * 3 + 2, none⟩ = some (.string T) := by
        refine ⟨?_, ?_, ?_, ?_, ?_, ?_, ?_⟩ <;> first | (refine kc hb ?_ <;> (go_simp; first | done | rfl)) | (refine kfz hb ?_ ?_ <;> first | (go_size; done) | (go_simp; done))
    have hz := hb.size
    (try simp only [World.size_alloc, World.size_setCell, World.size_drew] at hz)
    have hlx' : w.heap.size < u.heap.size := by omega
    have hlg' : 0 < u.heap.size := by omega
    have hB' : Below w.heap.size w u := by
        refine kb ?_ hb
        go_grown
    clear hb hz
    obtain ⟨hx_0, fx_0, hx_1, fx_1, hg_0, hg_1, hg_2⟩ := T
    have hlx := hlx'; clear hlx'
    have hlg := hlg'; clear hlg'
    have hnx0 : ¬ (w.heap.size = u.heap.size) := by omega
    have hnx1 : ¬ (w.heap.size = u.heap.size + 1) := by omega
    have hkx1 : w.heap.size < u.heap.size + 1 := by omega
    have hnx2 : ¬ (w.heap.size = u.heap.size + 1 + 1) := by omega
    have hkx2 : w.heap.size < u.heap.size + 1 + 1 := by omega
    have hng0 : ¬ (0 = u.heap.size) := by omega
    have hng1 : ¬ (0 = u.heap.size + 1) := by omega
    have hkg1 : 0 < u.heap.size + 1 := by omega
    have hng2 : ¬ (0 = u.heap.size + 1 + 1) := by omega
    have hkg2 : 0 < u.heap.size + 1 + 1 := by omega
    have hB := hB'; clear hB'
    have hsz := hB.size
    go_wp2_with fail
    ((with_reducible refine (HL.out _).mono ?_); rintro _ u2 ⟨rfl, hb⟩)
    have T : u2.cell? ⟨w.heap.size, 0, none⟩ = some (.int .u8 0) ∧ u2.frozen? ⟨w.heap.size, 0, none⟩ = false ∧ u2.cell? ⟨w.heap.size, 1, none⟩ = some (.int .i64 0) ∧ u2.frozen? ⟨w.heap.size, 1, none⟩ = false ∧ u2.cell? ⟨u.heap.size, 0, none⟩ = some (.string N) ∧ u2.cell? ⟨u.heap.size, 1, none⟩ = some (.int .i64 m) ∧ u2.cell? ⟨u.heap.size, 2, none⟩ = some (.int .i64 K) ∧ u2.cell? ⟨0, m * 3, none⟩ = some (.string S) ∧ u2.cell? ⟨0, m * 3 + 1, none⟩ = some (.int .i64 D) ∧ u2.cell? ⟨0, m * 3 + 2, none⟩ = some (.string T) := by
        refine ⟨?_, ?_, ?_, ?_, ?_, ?_, ?_, ?_, ?_, ?_⟩ <;> first | (refine kc hb ?_ <;> (go_simp; first | done | rfl)) | (refine kfz hb ?_ ?_ <;> first | (go_size; done) | (go_simp; done))
    have hz := hb.size
    (try simp only [World.size_alloc, World.size_setCell, World.size_drew] at hz)
    have hlx' : w.heap.size < u2.heap.size := by omega
    have hlr' : u.heap.size < u2.heap.size := by omega
    have hlg' : 0 < u2.heap.size := by omega
    have hB' : Below w.heap.size w u2 := by
        refine kb ?_ hb
        go_grown
    clear hx_0 fx_0 hx_1 fx_1 hg_0 hg_1 hg_2 hlx hlg hnx0 hnx1 hkx1 hnx2 hkx2 hng0 hng1 hkg1 hng2 hkg2 hB hsz
    clear hb hz
    obtain ⟨hx_0, fx_0, hx_1, fx_1, hr_0, hr_1, hr_2, hg_0, hg_1, hg_2⟩ := T
    have hlx := hlx'; clear hlx'
    have hlr := hlr'; clear hlr'
    have hlg := hlg'; clear hlg'
    have hnx0 : ¬ (w.heap.size = u2.heap.size) := by omega
    have hnx1 : ¬ (w.heap.size = u2.heap.size + 1) := by omega
    have hkx1 : w.heap.size < u2.heap.size + 1 := by omega
    have hnx2 : ¬ (w.heap.size = u2.heap.size + 1 + 1) := by omega
    have hkx2 : w.heap.size < u2.heap.size + 1 + 1 := by omega
    have hnr0 : ¬ (u.heap.size = u2.heap.size) := by omega
    have hnr1 : ¬ (u.heap.size = u2.heap.size + 1) := by omega
    have hkr1 : u.heap.size < u2.heap.size + 1 := by omega
    have hnr2 : ¬ (u.heap.size = u2.heap.size + 1 + 1) := by omega
    have hkr2 : u.heap.size < u2.heap.size + 1 + 1 := by omega
    have hng0 : ¬ (0 = u2.heap.size) := by omega
    have hng1 : ¬ (0 = u2.heap.size + 1) := by omega
    have hkg1 : 0 < u2.heap.size + 1 := by omega
    have hng2 : ¬ (0 = u2.heap.size + 1 + 1) := by omega
    have hkg2 : 0 < u2.heap.size + 1 + 1 := by omega
    have hB := hB'; clear hB'
    have hsz := hB.size
    have qq := kc hB HQ.out
    cases X
    · go_wp2_with (first | (go_at_call 41; (with_reducible refine (HN.out _ (by go_grown)).mono ?_); rintro _ _ ⟨rfl, rfl⟩) | (go_at_call 39; (with_reducible refine (HF2.out _).mono ?_); rintro _ _ ⟨rfl, rfl⟩))
      obtain ⟨s0, s1, s2⟩ := two_cells hx_0 hx_1
      have r1 : ro = 0 := H1.out.symm
      have r2 : rn = 0 := H2.out.symm
      have r3 : rk = 0 := H3.out.symm
      have r4 : re = 10 := H4.out.symm
      rw [r1, r2, r3, r4]
      refine bodyPost_ret (v := .tuple #[.agg #[.int .u8 0, .int .i64 0], .int .i64 0, .int .i64 10]) (by simp [results, Tryd.results18, go_sem, s0, s1, s2, old_cell (s0 _ _), old_cell (s1 _ _)]) rfl ⟨rfl, by go_grown⟩
    · go_wp2_with (first | (go_at_call 41; (with_reducible refine (HN.out _ (by go_grown)).mono ?_); rintro _ _ ⟨rfl, rfl⟩) | (go_at_call 39; (with_reducible refine (HF2.out _).mono ?_); rintro _ _ ⟨rfl, rfl⟩))
      ((with_reducible refine (HH.out _).mono ?_); rintro _ u3 ⟨rfl, hb⟩)
      have T : u3.cell? ⟨w.heap.size, 0, none⟩ = some (.int .u8 0) ∧ u3.frozen? ⟨w.heap.size, 0, none⟩ = false ∧ u3.cell? ⟨w.heap.size, 1, none⟩ = some (.int .i64 0) ∧ u3.frozen? ⟨w.heap.size, 1, none⟩ = false ∧ u3.cell? ⟨u.heap.size, 0, none⟩ = some (.string N) ∧ u3.cell? ⟨u.heap.size, 1, none⟩ = some (.int .i64 m) ∧ u3.cell? ⟨u.heap.size, 2, none⟩ = some (.int .i64 K) ∧ u3.cell? ⟨0, m * 3, none⟩ = some (.string S) ∧ u3.cell? ⟨0, m * 3 + 1, none⟩ = some (.int .i64 D) ∧ u3.cell? ⟨0, m * 3 + 2, none⟩ = some (.string T) := by
          refine ⟨?_, ?_, ?_, ?_, ?_, ?_, ?_, ?_, ?_, ?_⟩ <;> first | (refine kc hb ?_ <;> (go_simp; first | done | rfl)) | (refine kfz hb ?_ ?_ <;> first | (go_size; done) | (go_simp; done))
      have hz := hb.size
      (try simp only [World.size_alloc, World.size_setCell, World.size_drew] at hz)
      have hlx' : w.heap.size < u3.heap.size := by omega
      have hlr' : u.heap.size < u3.heap.size := by omega
      have hlg' : 0 < u3.heap.size := by omega
      have hB' : Below w.heap.size w u3 := by
          refine kb ?_ hb
          go_grown
      clear hx_0 fx_0 hx_1 fx_1 hr_0 hr_1 hr_2 hg_0 hg_1 hg_2 hlx hlr hlg hnx0 hnx1 hkx1 hnx2 hkx2 hnr0 hnr1 hkr1 hnr2 hkr2 hng0 hng1 hkg1 hng2 hkg2 hB hsz
      clear hb hz
      obtain ⟨hx_0, fx_0, hx_1, fx_1, hr_0, hr_1, hr_2, hg_0, hg_1, hg_2⟩ := T
      have hlx := hlx'; clear hlx'
      have hlr := hlr'; clear hlr'
      have hlg := hlg'; clear hlg'
      have hnx0 : ¬ (w.heap.size = u3.heap.size) := by omega
      have hnx1 : ¬ (w.heap.size = u3.heap.size + 1) := by omega
      have hkx1 : w.heap.size < u3.heap.size + 1 := by omega
      have hnx2 : ¬ (w.heap.size = u3.heap.size + 1 + 1) := by omega
      have hkx2 : w.heap.size < u3.heap.size + 1 + 1 := by omega
      have hnr0 : ¬ (u.heap.size = u3.heap.size) := by omega
      have hnr1 : ¬ (u.heap.size = u3.heap.size + 1) := by omega
      have hkr1 : u.heap.size < u3.heap.size + 1 := by omega
      have hnr2 : ¬ (u.heap.size = u3.heap.size + 1 + 1) := by omega
      have hkr2 : u.heap.size < u3.heap.size + 1 + 1 := by omega
      have hng0 : ¬ (0 = u3.heap.size) := by omega
      have hng1 : ¬ (0 = u3.heap.size + 1) := by omega
      have hkg1 : 0 < u3.heap.size + 1 := by omega
      have hng2 : ¬ (0 = u3.heap.size + 1 + 1) := by omega
      have hkg2 : 0 < u3.heap.size + 1 + 1 := by omega
      have hB := hB'; clear hB'
      have hsz := hB.size
      have qq2 := kc hB HQ.out
      have qq3 := old_cell qq2
      cases Y
      · go_wp2
        obtain ⟨s0, s1, s2⟩ := two_cells hx_0 hx_1
        have r1 : ro = 0 := H1.out.symm
        have r2 : rn = 0 := H2.out.symm
        have r3 : rk = 0 := H3.out.symm
        have r4 : re = 10 := H4.out.symm
        rw [r1, r2, r3, r4]
        refine bodyPost_ret (v := .tuple #[.agg #[.int .u8 0, .int .i64 0], .int .i64 0, .int .i64 10]) (by simp [results, Tryd.results18, go_sem, s0, s1, s2, old_cell (s0 _ _), old_cell (s1 _ _)]) rfl ⟨rfl, by go_grown⟩
      · go_wp2
        obtain ⟨s0, s1, s2⟩ := two_cells hx_0 hx_1
        have r1 : ro = b := H1.out.symm
        have r2 : rn = F := H2.out.symm
        have r3 : rk = L := H3.out.symm
        have r4 : re = 0 := H4.out.symm
        rw [r1, r2, r3, r4]
        refine bodyPost_ret (v := .tuple #[.agg #[.int .u8 b, .int .i64 F], .int .i64 L, .int .i64 0]) (by simp [results, Tryd.results18, go_sem, s0, s1, s2, old_cell (s0 _ _), old_cell (s1 _ _)]) rfl ⟨rfl, by go_grown⟩
  · rw [decide_eq_false hm12] at em
    clear hm12 w1 w2 w3
    subst hF
    go_enter Tryd.func18, Tryd.ntmps18
    have q1 := old_cell HQ.out
    go_wp2_with (go_at_call 39; (with_reducible refine (HF.out _).mono ?_); rintro _ _ ⟨rfl, rfl⟩)
    ((with_reducible refine (HO.out _).mono ?_); rintro _ u ⟨rfl, hb⟩)
    have T : u.cell? ⟨w.heap.size, 0, none⟩ = some (.int .u8 0) ∧ u.frozen? ⟨w.heap.size, 0, none⟩ = false ∧ u.cell? ⟨w.heap.size, 1, none⟩ = some (.int .i64 0) ∧ u.frozen? ⟨w.heap.size, 1, none⟩ = false ∧ u.cell? ⟨0, m * 3, none⟩ = some (.string S) ∧ u.cell? ⟨0, m * 3 + 1, none⟩ = some (.int .i64 D) ∧ u.cell? ⟨0, m * 3 + 2, none⟩ = some (.string T) := by
        refine ⟨?_, ?_, ?_, ?_, ?_, ?_, ?_⟩ <;> first | (refine kc hb ?_ <;> (go_simp; first | done | rfl)) | (refine kfz hb ?_ ?_ <;> first | (go_size; done) | (go_simp; done))
    have hz := hb.size
    (try simp only [World.size_alloc, World.size_setCell, World.size_drew] at hz)
    have hlx' : w.heap.size < u.heap.size := by omega
    have hlg' : 0 < u.heap.size := by omega
    have hB' : Below w.heap.size w u := by
        refine kb ?_ hb
        go_grown
    clear hb hz
    obtain ⟨hx_0, fx_0, hx_1, fx_1, hg_0, hg_1, hg_2⟩ := T
    have hlx := hlx'; clear hlx'
    have hlg := hlg'; clear hlg'
    have hnx0 : ¬ (w.heap.size = u.heap.size) := by omega
    have hnx1 : ¬ (w.heap.size = u.heap.size + 1) := by omega
    have hkx1 : w.heap.size < u.heap.size + 1 := by omega
    have hnx2 : ¬ (w.heap.size = u.heap.size + 1 + 1) := by omega
    have hkx2 : w.heap.size < u.heap.size + 1 + 1 := by omega
    have hng0 : ¬ (0 = u.heap.size) := by omega
    have hng1 : ¬ (0 = u.heap.size + 1) := by omega
    have hkg1 : 0 < u.heap.size + 1 := by omega
    have hng2 : ¬ (0 = u.heap.size + 1 + 1) := by omega
    have hkg2 : 0 < u.heap.size + 1 + 1 := by omega
    have hB := hB'; clear hB'
    have hsz := hB.size
    go_wp2_with fail
    ((with_reducible refine (HL.out _).mono ?_); rintro _ u2 ⟨rfl, hb⟩)
    have T : u2.cell? ⟨w.heap.size, 0, none⟩ = some (.int .u8 0) ∧ u2.frozen? ⟨w.heap.size, 0, none⟩ = false ∧ u2.cell? ⟨w.heap.size, 1, none⟩ = some (.int .i64 0) ∧ u2.frozen? ⟨w.heap.size, 1, none⟩ = false ∧ u2.cell? ⟨u.heap.size, 0, none⟩ = some (.string N) ∧ u2.cell? ⟨u.heap.size, 1, none⟩ = some (.int .i64 m) ∧ u2.cell? ⟨u.heap.size, 2, none⟩ = some (.int .i64 K) ∧ u2.cell? ⟨0, m * 3, none⟩ = some (.string S) ∧ u2.cell? ⟨0, m * 3 + 1, none⟩ = some (.int .i64 D) ∧ u2.cell? ⟨0, m * 3 + 2, none⟩ = some (.string T) := by
        refine ⟨?_, ?_, ?_, ?_, ?_, ?_, ?_, ?_, ?_, ?_⟩ <;> first | (refine kc hb ?_ <;> (go_simp; first | done | rfl)) | (refine kfz hb ?_ ?_ <;> first | (go_size; done) | (go_simp; done))
    have hz := hb.size
    (try simp only [World.size_alloc, World.size_setCell, World.size_drew] at hz)
    have hlx' : w.heap.size < u2.heap.size := by omega
    have hlr' : u.heap.size < u2.heap.size := by omega
    have hlg' : 0 < u2.heap.size := by omega
    have hB' : Below w.heap.size w u2 := by
        refine kb ?_ hb
        go_grown
    clear hx_0 fx_0 hx_1 fx_1 hg_0 hg_1 hg_2 hlx hlg hnx0 hnx1 hkx1 hnx2 hkx2 hng0 hng1 hkg1 hng2 hkg2 hB hsz
    clear hb hz
    obtain ⟨hx_0, fx_0, hx_1, fx_1, hr_0, hr_1, hr_2, hg_0, hg_1, hg_2⟩ := T
    have hlx := hlx'; clear hlx'
    have hlr := hlr'; clear hlr'
    have hlg := hlg'; clear hlg'
    have hnx0 : ¬ (w.heap.size = u2.heap.size) := by omega
    have hnx1 : ¬ (w.heap.size = u2.heap.size + 1) := by omega
    have hkx1 : w.heap.size < u2.heap.size + 1 := by omega
    have hnx2 : ¬ (w.heap.size = u2.heap.size + 1 + 1) := by omega
    have hkx2 : w.heap.size < u2.heap.size + 1 + 1 := by omega
    have hnr0 : ¬ (u.heap.size = u2.heap.size) := by omega
    have hnr1 : ¬ (u.heap.size = u2.heap.size + 1) := by omega
    have hkr1 : u.heap.size < u2.heap.size + 1 := by omega
    have hnr2 : ¬ (u.heap.size = u2.heap.size + 1 + 1) := by omega
    have hkr2 : u.heap.size < u2.heap.size + 1 + 1 := by omega
    have hng0 : ¬ (0 = u2.heap.size) := by omega
    have hng1 : ¬ (0 = u2.heap.size + 1) := by omega
    have hkg1 : 0 < u2.heap.size + 1 := by omega
    have hng2 : ¬ (0 = u2.heap.size + 1 + 1) := by omega
    have hkg2 : 0 < u2.heap.size + 1 + 1 := by omega
    have hB := hB'; clear hB'
    have hsz := hB.size
    have qq := kc hB HQ.out
    cases X
    · go_wp2_with (first | (go_at_call 41; (with_reducible refine (HN.out _ (by go_grown)).mono ?_); rintro _ _ ⟨rfl, rfl⟩) | (go_at_call 39; (with_reducible refine (HF2.out _).mono ?_); rintro _ _ ⟨rfl, rfl⟩))
      obtain ⟨s0, s1, s2⟩ := two_cells hx_0 hx_1
      have r1 : ro = 0 := H1.out.symm
      have r2 : rn = 0 := H2.out.symm
      have r3 : rk = 0 := H3.out.symm
      have r4 : re = 10 := H4.out.symm
      rw [r1, r2, r3, r4]
      refine bodyPost_ret (v := .tuple #[.agg #[.int .u8 0, .int .i64 0], .int .i64 0, .int .i64 10]) (by simp [results, Tryd.results18, go_sem, s0, s1, s2, old_cell (s0 _ _), old_cell (s1 _ _)]) rfl ⟨rfl, by go_grown⟩
    · go_wp2_with (first | (go_at_call 41; (with_reducible refine (HN.out _ (by go_grown)).mono ?_); rintro _ _ ⟨rfl, rfl⟩) | (go_at_call 39; (with_reducible refine (HF2.out _).mono ?_); rintro _ _ ⟨rfl, rfl⟩))
      ((with_reducible refine (HH.out _).mono ?_); rintro _ u3 ⟨rfl, hb⟩)
      have T : u3.cell? ⟨w.heap.size, 0, none⟩ = some (.int .u8 0) ∧ u3.frozen? ⟨w.heap.size, 0, none⟩ = false ∧ u3.cell? ⟨w.heap.size, 1, none⟩ = some (.int .i64 0) ∧ u3.frozen? ⟨w.heap.size, 1, none⟩ = false ∧ u3.cell? ⟨u.heap.size, 0, none⟩ = some (.string N) ∧ u3.cell? ⟨u.heap.size, 1, none⟩ = some (.int .i64 m) ∧ u3.cell? ⟨u.heap.size, 2, none⟩ = some (.int .i64 K) ∧ u3.cell? ⟨0, m * 3, none⟩ = some (.string S) ∧ u3.cell? ⟨0, m * 3 + 1, none⟩ = some (.int .i64 D) ∧ u3.cell? ⟨0, m * 3 + 2, none⟩ = some (.string T) := by
          refine ⟨?_, ?_, ?_, ?_, ?_, ?_, ?_, ?_, ?_, ?_⟩ <;> first | (refine kc hb ?_ <;> (go_simp; first | done | rfl)) | (refine kfz hb ?_ ?_ <;> first | (go_size; done) | (go_simp; done))
      have hz := hb.size
      (try simp only [World.size_alloc, World.size_setCell, World.size_drew] at hz)
      have hlx' : w.heap.size < u3.heap.size := by omega
      have hlr' : u.heap.size < u3.heap.size := by omega
      have hlg' : 0 < u3.heap.size := by omega
      have hB' : Below w.heap.size w u3 := by
          refine kb ?_ hb
          go_grown
      clear hx_0 fx_0 hx_1 fx_1 hr_0 hr_1 hr_2 hg_0 hg_1 hg_2 hlx hlr hlg hnx0 hnx1 hkx1 hnx2 hkx2 hnr0 hnr1 hkr1 hnr2 hkr2 hng0 hng1 hkg1 hng2 hkg2 hB hsz
      clear hb hz
      obtain ⟨hx_0, fx_0, hx_1, fx_1, hr_0, hr_1, hr_2, hg_0, hg_1, hg_2⟩ := T
      have hlx := hlx'; clear hlx'
      have hlr := hlr'; clear hlr'
      have hlg := hlg'; clear hlg'
      have hnx0 : ¬ (w.heap.size = u3.heap.size) := by omega
      have hnx1 : ¬ (w.heap.size = u3.heap.size + 1) := by omega
      have hkx1 : w.heap.size < u3.heap.size + 1 := by omega
      have hnx2 : ¬ (w.heap.size = u3.heap.size + 1 + 1) := by omega
      have hkx2 : w.heap.size < u3.heap.size + 1 + 1 := by omega
      have hnr0 : ¬ (u.heap.size = u3.heap.size) := by omega
      have hnr1 : ¬ (u.heap.size = u3.heap.size + 1) := by omega
      have hkr1 : u.heap.size < u3.heap.size + 1 := by omega
      have hnr2 : ¬ (u.heap.size = u3.heap.size + 1 + 1) := by omega
      have hkr2 : u.heap.size < u3.heap.size + 1 + 1 := by omega
      have hng0 : ¬ (0 = u3.heap.size) := by omega
      have hng1 : ¬ (0 = u3.heap.size + 1) := by omega
      have hkg1 : 0 < u3.heap.size + 1 := by omega
      have hng2 : ¬ (0 = u3.heap.size + 1 + 1) := by omega
      have hkg2 : 0 < u3.heap.size + 1 + 1 := by omega
      have hB := hB'; clear hB'
      have hsz := hB.size
      have qq2 := kc hB HQ.out
      have qq3 := old_cell qq2
      cases Y
      · go_wp2
        obtain ⟨s0, s1, s2⟩ := two_cells hx_0 hx_1
        have r1 : ro = 0 := H1.out.symm
        have r2 : rn = 0 := H2.out.symm
        have r3 : rk = 0 := H3.out.symm
        have r4 : re = 10 := H4.out.symm
        rw [r1, r2, r3, r4]
        refine bodyPost_ret (v := .tuple #[.agg #[.int .u8 0, .int .i64 0], .int .i64 0, .int .i64 10]) (by simp [results, Tryd.results18, go_sem, s0, s1, s2, old_cell (s0 _ _), old_cell (s1 _ _)]) rfl ⟨rfl, by go_grown⟩
      · go_wp2
        obtain ⟨s0, s1, s2⟩ := two_cells hx_0 hx_1
        have r1 : ro = b := H1.out.symm
        have r2 : rn = F := H2.out.symm
        have r3 : rk = L := H3.out.symm
        have r4 : re = 0 := H4.out.symm
        rw [r1, r2, r3, r4]
        refine bodyPost_ret (v := .tuple #[.agg #[.int .u8 b, .int .i64 F], .int .i64 L, .int .i64 0]) (by simp [results, Tryd.results18, go_sem, s0, s1, s2, old_cell (s0 _ _), old_cell (s1 _ _)]) rfl ⟨rfl, by go_grown⟩
end Go.Proofs.YtpjpoopgafcedaaDoor
set_option linter.unusedSimpArgs false
set_option linter.unusedVariables false
namespace Go.Proofs.YtpjpoopgafcedaaDoor
open Go.RowKit Go.PlainAid Go.Joins

theorem i8_byte (x : Int) (h0 : 0 ≤ x) (h1 : x < 256) : IntKind.i8.wrap x = if x ≤ 127 then x else x - 256 := by
  have h : IntKind.i8.wrap x = if x % 256 ≥ 128 then x % 256 - 256 else x % 256 := by simp [IntKind.wrap, IntKind.bits, IntKind.signed]
  rw [h]
  split <;> split <;> omega
theorem len_dg : ∀ m : Fin 13, (lenR (m.val : Int) = 1 ∧ dgP m.val = 0 ∧ m.val ≠ 12) ∨ (lenR (m.val : Int) = 2 ∧ dgP m.val = 2 ∧ m.val ≠ 12) ∨ (lenR (m.val : Int) = 2 ∧ dgP m.val = 4 ∧ m.val = 12) ∨ (lenR (m.val : Int) = 3 ∧ dgP m.val = 4 ∧ m.val ≠ 12) := by decide +kernel
theorem rest_one (l : List Int) (h : 2 ≤ l.length) : valL ((l.drop 1).take 1) = l.getD 1 0 := by
  match l, h with
  | x :: y :: r, _ => rfl
theorem rest_two (l : List Int) (h : 3 ≤ l.length) : valL ((l.drop 1).take 2) = l.getD 1 0 + 256 * l.getD 2 0 := by
  match l, h with
  | x :: y :: z :: r, _ => rfl
theorem readp_c (l : List Int) (hb : ∀ x ∈ l, 0 ≤ x ∧ x < 256) (v : Value) (a : Int) (w : World) (hv : HoldsC w v l) (hld : Laid w) :
    Calls Tryd.prog 18 #[v, .int .i64 a] w (ReadEndP w (readD l a).o (readD l a).n (readD l a).k (readD l a).e) := by
  unfold readD
  by_cases h : a < 0 ∨ 65535 < a
  · rw [if_pos h]; exact readp_range v a (by unfold fitsD; simp; omega) w
  · rw [if_neg h]
    have hf : fitsD a 1 = true := by unfold fitsD; simp; omega
    cases l with
    | nil =>
      obtain ⟨p, c, rfl, H⟩ := hv.1.form
      exact readp_empty p 0 c (by decide) a hf w
    | cons x r =>
      have hx := hb x (by simp)
      obtain ⟨b, rfl⟩ : ∃ b : Nat, x = (b : Int) := ⟨x.toNat, by omega⟩
      have hb8 : b < 256 := by omega
      have hl : ((b : Int) :: r)[0]? = some (b : Int) := rfl
      simp only [Int.toNat_natCast]
      cases hp : placeL.getD b none with
      | none =>
        have ho : isOp b = false := by unfold isOp; rw [hp]; rfl
        have hv' : ofV b = .tuple #[.agg #[.string ⟨#[]⟩, .int .i64 0, .int .i64 0], .int .i64 13] := by unfold ofV opC errOf; rw [ho]; rfl
        exact readp_opcode _ b hl hb8 v a hf (fun w => by have := of_c b hb8 w; rw [hv'] at this; exact this) w hv.1
      | some p =>
        have ho : isOp b = true := by unfold isOp; rw [hp]; rfl
        obtain ⟨p', hp', hnm, hmd⟩ := op_place b ho
        obtain rfl : p' = p := Option.some.inj (hp'.symm.trans hp)
        have hv' : ofV b = .tuple #[.agg #[.string ⟨(nm b).toArray⟩, .int .i64 ((p' % 13 : Nat) : Int), .int .i64 (kindP (nm b) (md b))], .int .i64 0] := by unfold ofV opC errOf; rw [ho, hmd]; rfl
        have hO : ∀ w, Calls Tryd.prog 24 #[.int .u8 b] w fun e w' => e = .returned (.tuple #[.agg #[.string ⟨(nm b).toArray⟩, .int .i64 ((p' % 13 : Nat) : Int), .int .i64 (kindP (nm b) (md b))], .int .i64 0]) ∧ Below w.heap.size w w' := fun w => by have := of_c b hb8 w; rw [hv'] at this; exact this
        have hm : p' % 13 < 13 := Nat.mod_lt _ (by omega)
        obtain ⟨q1, q2, q3⟩ := lenp_r ⟨p' % 13, hm⟩
        have hdg := len_dg ⟨p' % 13, hm⟩
        have hLn := fun w => lenp_c ((p' % 13 : Nat) : Int) w
        dsimp only at q1 q2 q3 hdg
        rw [q1] at hLn
        simp only []
        generalize p' % 13 = m at *
        unfold readM
        obtain ⟨M, hM⟩ : ∃ M : Nat, lenR (m : Int) = ((M + 1 : Nat) : Int) := ⟨(lenR (m : Int)).toNat - 1, by omega⟩
        generalize hll : (b : Int) :: r = l at *
        by_cases g1 : (l.length : Int) < lenR (m : Int)
        · rw [if_pos g1]; exact readp_short l b hl hb8 v a _ _ _ _ hf hO hLn g1 w hv.1
        · rw [if_neg g1]
          rw [hM] at hLn
          have hM2 : M ≤ 2 := by omega
          have hlen : M + 1 ≤ l.length := by omega
          by_cases g2 : 65536 < a + lenR (m : Int)
          · rw [if_pos g2]
            have hX : fitsD a ((M + 1 : Nat) : Int) = false := by unfold fitsD; simp; omega
            by_cases hk : m = 12
            · have := readp_all l b M m hl hb8 hb v a _ _ _ _ _ hf hm hO hLn hM2 hlen (.inl ⟨hk, rfl⟩) hX rfl w hv hld
              exact this
            · have := readp_all l b M m hl hb8 hb v a _ _ _ _ _ hf hm hO hLn hM2 hlen (.inr ⟨hk, rfl⟩) hX rfl w hv hld
              exact this
          · rw [if_neg g2]
            have hX : fitsD a ((M + 1 : Nat) : Int) = true := by unfold fitsD; simp; omega
            rcases hdg with ⟨d1, d2, d3⟩ | ⟨d1, d2, d3⟩ | ⟨d1, d2, d3⟩ | ⟨d1, d2, d3⟩
            · have : M = 0 := by omega
              subst this
              have hY : (decide (0 ≤ valL ((l.drop 1).take 0)) && decide (valL ((l.drop 1).take 0) < ((16 ^ dgP m : Nat) : Int))) = true := by rw [d2]; rfl
              have := readp_all l b 0 m hl hb8 hb v a _ _ _ _ _ hf hm hO hLn hM2 hlen (.inr ⟨d3, rfl⟩) hX hY w hv hld
              rw [if_neg (by omega : ¬ (m : Int) = 12), if_pos d1]
              exact this
            · have : M = 1 := by omega
              subst this
              have hv1 := rest_one l hlen
              have hb1 := byte_at hb (some_at (l := l) (j := 1) (by omega))
              have hY : (decide (0 ≤ valL ((l.drop 1).take 1)) && decide (valL ((l.drop 1).take 1) < ((16 ^ dgP m : Nat) : Int))) = true := by rw [d2, hv1]; simp only [Bool.and_eq_true, decide_eq_true_eq]; omega
              have := readp_all l b 1 m hl hb8 hb v a _ _ _ _ _ hf hm hO hLn hM2 hlen (.inr ⟨d3, rfl⟩) hX hY w hv hld
              rw [if_neg (by omega : ¬ (m : Int) = 12), if_neg (by omega), if_pos d1, ← hv1]
              exact this
            · have : M = 1 := by omega
              subst this
              have hv1 := rest_one l hlen
              have hb1 := byte_at hb (some_at (l := l) (j := 1) (by omega))
              have hrel : a + ((1 + 1 : Nat) : Int) + IntKind.i8.wrap (valL ((l.drop 1).take 1)) = relN a (l.getD 1 0) := by
                rw [hv1, i8_byte _ hb1.1 hb1.2]
                unfold relN
                split <;> omega
              have := readp_all l b 1 m hl hb8 hb v a _ _ _ _ _ hf hm hO hLn hM2 hlen (.inl ⟨d3, rfl⟩) hX rfl w hv hld
              rw [hrel, d2] at this
              rw [if_pos (by omega : (m : Int) = 12)]
              by_cases hr : 0 ≤ relN a (l.getD 1 0) ∧ relN a (l.getD 1 0) ≤ 65535
              · rw [if_pos hr]
                rw [show (decide (0 ≤ relN a (l.getD 1 0)) && decide (relN a (l.getD 1 0) < ((16 ^ 4 : Nat) : Int))) = true by simp only [Bool.and_eq_true, decide_eq_true_eq]; omega] at this
                exact this
              · rw [if_neg hr]
                rw [show (decide (0 ≤ relN a (l.getD 1 0)) && decide (relN a (l.getD 1 0) < ((16 ^ 4 : Nat) : Int))) = false by simp only [Bool.and_eq_false_iff, decide_eq_false_iff_not]; omega] at this
                exact this
            · have : M = 2 := by omega
              subst this
              have hv1 := rest_two l hlen
              have hb1 := byte_at hb (some_at (l := l) (j := 1) (by omega))
              have hb2 := byte_at hb (some_at (l := l) (j := 2) (by omega))
              have hY : (decide (0 ≤ valL ((l.drop 1).take 2)) && decide (valL ((l.drop 1).take 2) < ((16 ^ dgP m : Nat) : Int))) = true := by rw [d2, hv1]; simp only [Bool.and_eq_true, decide_eq_true_eq]; omega
              have := readp_all l b 2 m hl hb8 hb v a _ _ _ _ _ hf hm hO hLn hM2 hlen (.inr ⟨d3, rfl⟩) hX hY w hv hld
              rw [if_neg (by omega : ¬ (m : Int) = 12), if_neg (by omega), if_neg (by omega), ← hv1]
              exact this
end Go.Proofs.YtpjpoopgafcedaaDoor
