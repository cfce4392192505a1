/-
  AsmBack returns true: the walk.
-/
import Derived.Test.YtpjpoopgafcedaaDoorAwake5
import Derived.Test.YtpjpoopgafcedaaDoorLawKit
import Derived.Test.YtpjpoopgafcedaaDoorPlanT
import Derived.Test.YtpjpoopgafcedaaDoorBackPure
import Derived.Test.YtpjpoopgafcedaaDoorParsePure
set_option linter.unusedSimpArgs false
set_option linter.unusedVariables false
namespace Go.Proofs.YtpjpoopgafcedaaDoor
open Go.RowKit Go.PlainAid Go.Joins

set_option maxRecDepth 100000 in
set_option maxHeartbeats 1000000 in
theorem back_long (b : Nat) (n : Int) (p : Option Addr) (L c : Nat) (a : Int) (h : ¬ L ≤ 10) (w : World) (hl : Laid w) : Calls Tryd.prog 6 #[.agg #[.int .u8 b, .int .i64 n], .slice p L c, .int .i64 a] w (LawEnd w) := by
  have hd : decide ((10 : Int) < (L : Int)) = true := decide_eq_true (by omega)
  have HA := Lib.hid awake_c
  clear h
  go_enter Tryd.func6, Tryd.ntmps6
  go_wp2_with fail
  ((with_reducible refine (HA.out _ (hl.below (by go_grown))).mono ?_); rintro _ u ⟨rfl, hb⟩)
  have hz := hb.size
  (try simp only [World.size_alloc, World.size_setCell, World.size_drew] at hz)
  have hB' : Below w.heap.size w u := by
      refine kb ?_ hb
      go_grown
  clear hb hz
  have hB := hB'; clear hB'
  have hsz := hB.size
  go_wp2
  go_ret
  exact ⟨rfl, by go_grown⟩
theorem bytes_bytes (b : Nat) (hb : b < 256) (n a : Int) : ∀ x ∈ bytesL b n a, 0 ≤ x ∧ x < 256 := by
  by_cases h : bytesE b n a = 0
  · cases hp : placeL.getD b none with
    | none => unfold bytesL; rw [hp]; intro x hx; cases hx
    | some p =>
      have eE : bytesEk ((p % 13 : Nat) : Int) n a = 0 := by rw [← h]; unfold bytesE; rw [hp]
      have eL : bytesL b n a = bytesLk b ((p % 13 : Nat) : Int) n a := by unfold bytesL; rw [hp]
      obtain ⟨x1, x2, x3, x4, x5, x6⟩ := bytesk_ok b ((p % 13 : Nat) : Int) n a (by omega) eE
      have hmo := most_hi ((p % 13 : Nat) : Int)
      rw [eL]
      intro x hx
      rcases x6 with ⟨e1, e2, e3, e4⟩ | ⟨e1, e2⟩
      · rw [e2] at hx
        simp at hx
        omega
      · rw [e2] at hx
        split at hx
        · simp at hx; omega
        · split at hx <;> simp at hx <;> omega
  · rw [bytes_none b n a h]
    intro x hx
    cases hx
theorem slice_to (g o L c K : Nat) (h : K ≤ c) (W : World) : (Instr.slice 38 (.slice (some ⟨g, o, none⟩) L c) none (some (.int .i64 (K : Int))) none).run Tryd.prog W = .ok (.slice (some ⟨g, o, none⟩) K c) W := by
  have e2 : (sizeOf (Tryd.prog.elem 38)).run Tryd.prog W = .ok 1 W := by kernel_rfl
  rw [run_slice_h (t := 38) (ht := by kernel_rfl) (h0 := by omega) (h2 := by omega), e2]
  show Result.ok (Go.sliced (some ⟨g, o, none⟩) 0 (K : Int).toNat c 1) W = _
  unfold Go.sliced
  rw [Int.toNat_natCast]
  split
  · simp
  · simp [Addr.add_lit]
theorem holds_take {w : World} {g o c : Nat} {l : List Int} (hv : Holds w (.slice (some ⟨g, o, none⟩) l.length c) l) (K : Nat) (hK : K ≤ l.length) : Holds w (.slice (some ⟨g, o, none⟩) K c) (l.take K) := by
  have hlen : (l.take K).length = K := by rw [List.length_take]; omega
  refine .inr ⟨g, o, c, by rw [hlen], fun j x hx => ?_⟩
  have hj : j < K := by
    have := (List.getElem?_eq_some_iff.1 hx).1
    omega
  rw [List.getElem?_take, if_pos hj] at hx
  exact (hv.at).2 j x hx
set_option maxRecDepth 100000 in
set_option maxHeartbeats 4000000 in
theorem back_a0 (b : Nat) (hb : b < 256) (n : Int) (P : ByteArray) (X l : List Int) (p : Option Addr) (c : Nat) (a E G : Int) (o : Nat) (m : Int) (k : Nat) (e : Int) (h : l.length ≤ 10)
    (hP : ∀ w, Laid w → Calls Tryd.prog 10 #[.agg #[.int .u8 b, .int .i64 n]] w fun e w' => e = .returned (.tuple #[.string P, .int .i64 E]) ∧ Below w.heap.size w w')
    (hQ : E = 0 → ∀ w, Laid w → LaidE w → Calls Tryd.prog 14 #[.string P] w fun x w' => x = .returned (.tuple #[.agg #[.int .u8 b, .int .i64 n], .int .i64 0]) ∧ Below w.heap.size w w')
    (hB : ∀ w, Laid w → Calls Tryd.prog 16 #[.agg #[.int .u8 b, .int .i64 n], .int .i64 a] w (BytesEnd w X G))
    (hR1 : G = 0 → ∀ v w, HoldsC w v X → Laid w → Calls Tryd.prog 18 #[v, .int .i64 a] w fun x w' => x = .returned (.tuple #[.agg #[.int .u8 b, .int .i64 n], .int .i64 (X.length : Int), .int .i64 0]) ∧ Below w.heap.size w w')
    (hR : ∀ w, HoldsC w (.slice p l.length c) l → Laid w → Calls Tryd.prog 18 #[.slice p l.length c, .int .i64 a] w fun x w' => x = .returned (.tuple #[.agg #[.int .u8 o, .int .i64 m], .int .i64 k, .int .i64 e]) ∧ Below w.heap.size w w')
    (hZ : e ≠ 0 → o = 0 ∧ m = 0 ∧ k = 0) (hK : e = 0 → 1 ≤ k ∧ k ≤ l.length)
    (hBo : e = 0 → ∀ w, Laid w → Calls Tryd.prog 16 #[.agg #[.int .u8 o, .int .i64 m], .int .i64 a] w (BytesEnd w (l.take k) 0)) (hE0 : E ≠ 0) (he0 : e ≠ 0) (w : World) (hv : HoldsC w (.slice p l.length c) l) (hl : Laid w) (hE : LaidE w) :
    Calls Tryd.prog 6 #[.agg #[.int .u8 b, .int .i64 n], .slice p l.length c, .int .i64 a] w (LawEnd w) := by
  have hd : decide ((10 : Int) < (l.length : Int)) = false := decide_eq_false (by omega)
  have HA := Lib.hid awake_c
  have HP := Lib.hid hP
  have HR := Lib.hid hR
  have e1 : (E == 0) = false := by rw [beq_eq_false_iff_ne]; exact hE0
  have e3 : (e != 0) = true := by rw [bne_iff_ne]; exact he0
  obtain ⟨rfl, rfl, rfl⟩ := hZ he0
  clear hP hQ hB hR1 hBo h hE0 he0
  clear hR hZ hK
  go_enter Tryd.func6, Tryd.ntmps6
  go_wp2_with fail
  ((with_reducible refine (HP.out _ (hl.below (by go_grown))).mono ?_); rintro _ u1 ⟨rfl, hb⟩)
  have T : u1.cell? ⟨w.heap.size, 0, none⟩ = some (.int .u8 b) ∧ u1.cell? ⟨w.heap.size, 1, none⟩ = some (.int .i64 n) := by
      refine ⟨?_, ?_⟩ <;> refine kc hb ?_ <;> (go_simp; first | done | rfl)
  have hz := hb.size
  (try simp only [World.size_alloc, World.size_setCell, World.size_drew] at hz)
  have hlx' : w.heap.size < u1.heap.size := by omega
  have hB' : Below w.heap.size w u1 := by
      refine kb ?_ hb
      go_grown
  clear hb hz
  obtain ⟨hx_0, hx_1⟩ := T
  have hlx := hlx'; clear hlx'
  have hnx0 : ¬ (w.heap.size = u1.heap.size) := by omega
  have hnx1 : ¬ (w.heap.size = u1.heap.size + 1) := by omega
  have hkx1 : w.heap.size < u1.heap.size + 1 := by omega
  have hnx2 : ¬ (w.heap.size = u1.heap.size + 1 + 1) := by omega
  have hkx2 : w.heap.size < u1.heap.size + 1 + 1 := by omega
  have hB := hB'; clear hB'
  have hsz := hB.size
  go_wp2_with fail
  ((with_reducible refine (HR.out _ (hv.below (by go_grown)) (hl.below (by go_grown))).mono ?_); rintro _ q1 ⟨rfl, hb⟩)
  have T : q1.cell? ⟨w.heap.size, 0, none⟩ = some (.int .u8 b) ∧ q1.cell? ⟨w.heap.size, 1, none⟩ = some (.int .i64 n) := by
      refine ⟨?_, ?_⟩ <;> refine kc hb ?_ <;> (go_simp; first | done | rfl)
  have hz := hb.size
  (try simp only [World.size_alloc, World.size_setCell, World.size_drew] at hz)
  have hlx' : w.heap.size < q1.heap.size := by omega
  have hB' : Below w.heap.size w q1 := by
      refine kb ?_ hb
      go_grown
  clear hx_0 hx_1 hlx hnx0 hnx1 hkx1 hnx2 hkx2 hB hsz
  clear hb hz
  obtain ⟨hx_0, hx_1⟩ := T
  have hlx := hlx'; clear hlx'
  have hnx0 : ¬ (w.heap.size = q1.heap.size) := by omega
  have hnx1 : ¬ (w.heap.size = q1.heap.size + 1) := by omega
  have hkx1 : w.heap.size < q1.heap.size + 1 := by omega
  have hnx2 : ¬ (w.heap.size = q1.heap.size + 1 + 1) := by omega
  have hkx2 : w.heap.size < q1.heap.size + 1 + 1 := by omega
  have hB := hB'; clear hB'
  have hsz := hB.size
  go_wp2_with fail
  ((with_reducible refine (HA.out _ (hl.below (by go_grown))).mono ?_); rintro _ q2 ⟨rfl, hb⟩)
  have hz := hb.size
  (try simp only [World.size_alloc, World.size_setCell, World.size_drew] at hz)
  have hB' : Below w.heap.size w q2 := by
      refine kb ?_ hb
      go_grown
  clear hx_0 hx_1 hlx hnx0 hnx1 hkx1 hnx2 hkx2 hB hsz
  clear hb hz
  have hB := hB'; clear hB'
  have hsz := hB.size
  go_wp2
  go_ret
  exact ⟨rfl, by go_grown⟩
set_option maxRecDepth 100000 in
set_option maxHeartbeats 4000000 in
theorem back_a1 (b : Nat) (hb : b < 256) (n : Int) (P : ByteArray) (X l : List Int) (p : Option Addr) (c : Nat) (a E G : Int) (o : Nat) (m : Int) (k : Nat) (e : Int) (h : l.length ≤ 10)
    (hP : ∀ w, Laid w → Calls Tryd.prog 10 #[.agg #[.int .u8 b, .int .i64 n]] w fun e w' => e = .returned (.tuple #[.string P, .int .i64 E]) ∧ Below w.heap.size w w')
    (hQ : E = 0 → ∀ w, Laid w → LaidE w → Calls Tryd.prog 14 #[.string P] w fun x w' => x = .returned (.tuple #[.agg #[.int .u8 b, .int .i64 n], .int .i64 0]) ∧ Below w.heap.size w w')
    (hB : ∀ w, Laid w → Calls Tryd.prog 16 #[.agg #[.int .u8 b, .int .i64 n], .int .i64 a] w (BytesEnd w X G))
    (hR1 : G = 0 → ∀ v w, HoldsC w v X → Laid w → Calls Tryd.prog 18 #[v, .int .i64 a] w fun x w' => x = .returned (.tuple #[.agg #[.int .u8 b, .int .i64 n], .int .i64 (X.length : Int), .int .i64 0]) ∧ Below w.heap.size w w')
    (hR : ∀ w, HoldsC w (.slice p l.length c) l → Laid w → Calls Tryd.prog 18 #[.slice p l.length c, .int .i64 a] w fun x w' => x = .returned (.tuple #[.agg #[.int .u8 o, .int .i64 m], .int .i64 k, .int .i64 e]) ∧ Below w.heap.size w w')
    (hZ : e ≠ 0 → o = 0 ∧ m = 0 ∧ k = 0) (hK : e = 0 → 1 ≤ k ∧ k ≤ l.length)
    (hBo : e = 0 → ∀ w, Laid w → Calls Tryd.prog 16 #[.agg #[.int .u8 o, .int .i64 m], .int .i64 a] w (BytesEnd w (l.take k) 0)) (hE0 : E ≠ 0) (he0 : e = 0) (w : World) (hv : HoldsC w (.slice p l.length c) l) (hl : Laid w) (hE : LaidE w) :
    Calls Tryd.prog 6 #[.agg #[.int .u8 b, .int .i64 n], .slice p l.length c, .int .i64 a] w (LawEnd w) := by
  have hd : decide ((10 : Int) < (l.length : Int)) = false := decide_eq_false (by omega)
  have HA := Lib.hid awake_c
  have HP := Lib.hid hP
  have HR := Lib.hid hR
  have e1 : (E == 0) = false := by rw [beq_eq_false_iff_ne]; exact hE0
  subst he0
  have HBo := Lib.hid (hBo rfl)
  obtain ⟨k1, k2⟩ := hK rfl
  obtain ⟨g, go, rfl, hcap⟩ : ∃ g go, p = some ⟨g, go, none⟩ ∧ l.length ≤ c := by
    have hc := hv.2 _ _ _ rfl
    rcases hv.holds with ⟨h1, h2⟩ | ⟨g, go, cap, h1, _⟩
    · rw [h2] at k2; simp at k2; omega
    · cases h1; exact ⟨g, go, rfl, hc⟩
  have qs := fun W => slice_to g go l.length c k (by omega) W
  have HT := Lib.hid (fun W (h : Holds W (.slice (some ⟨g, go, none⟩) l.length c) l) => holds_take h k k2)
  have d1 : decide ((1 : Int) ≤ (k : Int)) = true := decide_eq_true (by omega)
  have d2 : decide ((k : Int) ≤ (l.length : Int)) = true := decide_eq_true (by omega)
  have hl10 : (l.take k).length ≤ 1000000 := by rw [List.length_take]; omega
  generalize hkI : (k : Int) = kI at HR qs d1 d2
  have HkI := Lib.hid hkI
  clear hcap k1 k2 hkI hK hZ hR
  clear hP hQ hB hR1 hBo h hE0
  go_enter Tryd.func6, Tryd.ntmps6
  go_wp2_with fail
  ((with_reducible refine (HP.out _ (hl.below (by go_grown))).mono ?_); rintro _ u1 ⟨rfl, hb⟩)
  have T : u1.cell? ⟨w.heap.size, 0, none⟩ = some (.int .u8 b) ∧ u1.cell? ⟨w.heap.size, 1, none⟩ = some (.int .i64 n) := by
      refine ⟨?_, ?_⟩ <;> refine kc hb ?_ <;> (go_simp; first | done | rfl)
  have hz := hb.size
  (try simp only [World.size_alloc, World.size_setCell, World.size_drew] at hz)
  have hlx' : w.heap.size < u1.heap.size := by omega
  have hB' : Below w.heap.size w u1 := by
      refine kb ?_ hb
      go_grown
  clear hb hz
  obtain ⟨hx_0, hx_1⟩ := T
  have hlx := hlx'; clear hlx'
  have hnx0 : ¬ (w.heap.size = u1.heap.size) := by omega
  have hnx1 : ¬ (w.heap.size = u1.heap.size + 1) := by omega
  have hkx1 : w.heap.size < u1.heap.size + 1 := by omega
  have hnx2 : ¬ (w.heap.size = u1.heap.size + 1 + 1) := by omega
  have hkx2 : w.heap.size < u1.heap.size + 1 + 1 := by omega
  have hB := hB'; clear hB'
  have hsz := hB.size
  go_wp2_with fail
  ((with_reducible refine (HR.out _ (hv.below (by go_grown)) (hl.below (by go_grown))).mono ?_); rintro _ q1 ⟨rfl, hb⟩)
  have T : q1.cell? ⟨w.heap.size, 0, none⟩ = some (.int .u8 b) ∧ q1.cell? ⟨w.heap.size, 1, none⟩ = some (.int .i64 n) := by
      refine ⟨?_, ?_⟩ <;> refine kc hb ?_ <;> (go_simp; first | done | rfl)
  have hz := hb.size
  (try simp only [World.size_alloc, World.size_setCell, World.size_drew] at hz)
  have hlx' : w.heap.size < q1.heap.size := by omega
  have hB' : Below w.heap.size w q1 := by
      refine kb ?_ hb
      go_grown
  clear hx_0 hx_1 hlx hnx0 hnx1 hkx1 hnx2 hkx2 hB hsz
  clear hb hz
  obtain ⟨hx_0, hx_1⟩ := T
  have hlx := hlx'; clear hlx'
  have hnx0 : ¬ (w.heap.size = q1.heap.size) := by omega
  have hnx1 : ¬ (w.heap.size = q1.heap.size + 1) := by omega
  have hkx1 : w.heap.size < q1.heap.size + 1 := by omega
  have hnx2 : ¬ (w.heap.size = q1.heap.size + 1 + 1) := by omega
  have hkx2 : w.heap.size < q1.heap.size + 1 + 1 := by omega
  have hB := hB'; clear hB'
  have hsz := hB.size
  go_wp2_with fail
  ((with_reducible refine (HBo.out _ (hl.below (by go_grown))).mono ?_); rintro _ q2 ⟨v3, rfl, hown3, hb⟩)
  have hs_q2 := Lib.hid hb
  have hz := hb.size
  (try simp only [World.size_alloc, World.size_setCell, World.size_drew] at hz)
  have hB' : Below w.heap.size w q2 := by
      refine kb ?_ hb
      go_grown
  clear hx_0 hx_1 hlx hnx0 hnx1 hkx1 hnx2 hkx2 hB hsz
  clear hb hz
  have hB := hB'; clear hB'
  have hsz := hB.size
  have H3 := Lib.hid (holds_own hown3)
  clear hown3 hs_q2
  go_wp2_with fail
  have hS := same_c v3 _ (l.take k) (l.take k) q2 H3.out (HT.out _ (hv.holds.below hB)) hl10
  rw [show (l.take k == l.take k) = true from by simp] at hS
  ((with_reducible refine (hS).mono ?_); rintro _ q3 ⟨rfl, hb⟩)
  have hz := hb.size
  (try simp only [World.size_alloc, World.size_setCell, World.size_drew] at hz)
  have hB' : Below w.heap.size w q3 := by
      refine kb ?_ hb
      go_grown
  clear hB hsz
  clear hb hz
  have hB := hB'; clear hB'
  have hsz := hB.size
  clear hS H3
  go_wp2_with fail
  ((with_reducible refine (HA.out _ (hl.below (by go_grown))).mono ?_); rintro _ q4 ⟨rfl, hb⟩)
  have hz := hb.size
  (try simp only [World.size_alloc, World.size_setCell, World.size_drew] at hz)
  have hB' : Below w.heap.size w q4 := by
      refine kb ?_ hb
      go_grown
  clear hB hsz
  clear hb hz
  have hB := hB'; clear hB'
  have hsz := hB.size
  go_wp2
  go_ret
  exact ⟨rfl, by go_grown⟩
set_option maxRecDepth 100000 in
set_option maxHeartbeats 4000000 in
theorem back_b0 (b : Nat) (hb : b < 256) (n : Int) (P : ByteArray) (X l : List Int) (p : Option Addr) (c : Nat) (a E G : Int) (o : Nat) (m : Int) (k : Nat) (e : Int) (h : l.length ≤ 10)
    (hP : ∀ w, Laid w → Calls Tryd.prog 10 #[.agg #[.int .u8 b, .int .i64 n]] w fun e w' => e = .returned (.tuple #[.string P, .int .i64 E]) ∧ Below w.heap.size w w')
    (hQ : E = 0 → ∀ w, Laid w → LaidE w → Calls Tryd.prog 14 #[.string P] w fun x w' => x = .returned (.tuple #[.agg #[.int .u8 b, .int .i64 n], .int .i64 0]) ∧ Below w.heap.size w w')
    (hB : ∀ w, Laid w → Calls Tryd.prog 16 #[.agg #[.int .u8 b, .int .i64 n], .int .i64 a] w (BytesEnd w X G))
    (hR1 : G = 0 → ∀ v w, HoldsC w v X → Laid w → Calls Tryd.prog 18 #[v, .int .i64 a] w fun x w' => x = .returned (.tuple #[.agg #[.int .u8 b, .int .i64 n], .int .i64 (X.length : Int), .int .i64 0]) ∧ Below w.heap.size w w')
    (hR : ∀ w, HoldsC w (.slice p l.length c) l → Laid w → Calls Tryd.prog 18 #[.slice p l.length c, .int .i64 a] w fun x w' => x = .returned (.tuple #[.agg #[.int .u8 o, .int .i64 m], .int .i64 k, .int .i64 e]) ∧ Below w.heap.size w w')
    (hZ : e ≠ 0 → o = 0 ∧ m = 0 ∧ k = 0) (hK : e = 0 → 1 ≤ k ∧ k ≤ l.length)
    (hBo : e = 0 → ∀ w, Laid w → Calls Tryd.prog 16 #[.agg #[.int .u8 o, .int .i64 m], .int .i64 a] w (BytesEnd w (l.take k) 0)) (hE0 : E = 0) (hG0 : G ≠ 0) (he0 : e ≠ 0) (w : World) (hv : HoldsC w (.slice p l.length c) l) (hl : Laid w) (hE : LaidE w) :
    Calls Tryd.prog 6 #[.agg #[.int .u8 b, .int .i64 n], .slice p l.length c, .int .i64 a] w (LawEnd w) := by
  have hd : decide ((10 : Int) < (l.length : Int)) = false := decide_eq_false (by omega)
  have HA := Lib.hid awake_c
  have HP := Lib.hid hP
  have HR := Lib.hid hR
  subst hE0
  have HQ := Lib.hid (hQ rfl)
  have HB := Lib.hid hB
  have e2 : (G == 0) = false := by rw [beq_eq_false_iff_ne]; exact hG0
  have e3 : (e != 0) = true := by rw [bne_iff_ne]; exact he0
  obtain ⟨rfl, rfl, rfl⟩ := hZ he0
  clear hP hQ hB hR1 hBo h hG0 he0
  clear hR hZ hK
  go_enter Tryd.func6, Tryd.ntmps6
  go_wp2_with fail
  ((with_reducible refine (HP.out _ (hl.below (by go_grown))).mono ?_); rintro _ u1 ⟨rfl, hb⟩)
  have T : u1.cell? ⟨w.heap.size, 0, none⟩ = some (.int .u8 b) ∧ u1.cell? ⟨w.heap.size, 1, none⟩ = some (.int .i64 n) := by
      refine ⟨?_, ?_⟩ <;> refine kc hb ?_ <;> (go_simp; first | done | rfl)
  have hz := hb.size
  (try simp only [World.size_alloc, World.size_setCell, World.size_drew] at hz)
  have hlx' : w.heap.size < u1.heap.size := by omega
  have hB' : Below w.heap.size w u1 := by
      refine kb ?_ hb
      go_grown
  clear hb hz
  obtain ⟨hx_0, hx_1⟩ := T
  have hlx := hlx'; clear hlx'
  have hnx0 : ¬ (w.heap.size = u1.heap.size) := by omega
  have hnx1 : ¬ (w.heap.size = u1.heap.size + 1) := by omega
  have hkx1 : w.heap.size < u1.heap.size + 1 := by omega
  have hnx2 : ¬ (w.heap.size = u1.heap.size + 1 + 1) := by omega
  have hkx2 : w.heap.size < u1.heap.size + 1 + 1 := by omega
  have hB := hB'; clear hB'
  have hsz := hB.size
  go_wp2_with fail
  ((with_reducible refine (HQ.out _ (hl.below (by go_grown)) (hE.below (by go_grown))).mono ?_); rintro _ u2 ⟨rfl, hb⟩)
  have T : u2.cell? ⟨w.heap.size, 0, none⟩ = some (.int .u8 b) ∧ u2.cell? ⟨w.heap.size, 1, none⟩ = some (.int .i64 n) := by
      refine ⟨?_, ?_⟩ <;> refine kc hb ?_ <;> (go_simp; first | done | rfl)
  have hz := hb.size
  (try simp only [World.size_alloc, World.size_setCell, World.size_drew] at hz)
  have hlx' : w.heap.size < u2.heap.size := by omega
  have hB' : Below w.heap.size w u2 := by
      refine kb ?_ hb
      go_grown
  clear hx_0 hx_1 hlx hnx0 hnx1 hkx1 hnx2 hkx2 hB hsz
  clear hb hz
  obtain ⟨hx_0, hx_1⟩ := T
  have hlx := hlx'; clear hlx'
  have hnx0 : ¬ (w.heap.size = u2.heap.size) := by omega
  have hnx1 : ¬ (w.heap.size = u2.heap.size + 1) := by omega
  have hkx1 : w.heap.size < u2.heap.size + 1 := by omega
  have hnx2 : ¬ (w.heap.size = u2.heap.size + 1 + 1) := by omega
  have hkx2 : w.heap.size < u2.heap.size + 1 + 1 := by omega
  have hB := hB'; clear hB'
  have hsz := hB.size
  go_wp2_with fail
  ((with_reducible refine (HB.out _ (hl.below (by go_grown))).mono ?_); rintro _ u3 ⟨v1, rfl, hown1, hb⟩)
  have hs_u3 := Lib.hid hb
  have T : u3.cell? ⟨w.heap.size, 0, none⟩ = some (.int .u8 b) ∧ u3.cell? ⟨w.heap.size, 1, none⟩ = some (.int .i64 n) ∧ u3.cell? ⟨u2.heap.size, 0, none⟩ = some (.int .u8 b) ∧ u3.cell? ⟨u2.heap.size, 1, none⟩ = some (.int .i64 n) := by
      refine ⟨?_, ?_, ?_, ?_⟩ <;> refine kc hb ?_ <;> (go_simp; first | done | rfl)
  have hz := hb.size
  (try simp only [World.size_alloc, World.size_setCell, World.size_drew] at hz)
  have hlx' : w.heap.size < u3.heap.size := by omega
  have hly' : u2.heap.size < u3.heap.size := by omega
  have hB' : Below w.heap.size w u3 := by
      refine kb ?_ hb
      go_grown
  clear hx_0 hx_1 hlx hnx0 hnx1 hkx1 hnx2 hkx2 hB hsz
  clear hb hz
  obtain ⟨hx_0, hx_1, hy_0, hy_1⟩ := T
  have hlx := hlx'; clear hlx'
  have hly := hly'; clear hly'
  have hnx0 : ¬ (w.heap.size = u3.heap.size) := by omega
  have hnx1 : ¬ (w.heap.size = u3.heap.size + 1) := by omega
  have hkx1 : w.heap.size < u3.heap.size + 1 := by omega
  have hnx2 : ¬ (w.heap.size = u3.heap.size + 1 + 1) := by omega
  have hkx2 : w.heap.size < u3.heap.size + 1 + 1 := by omega
  have hny0 : ¬ (u2.heap.size = u3.heap.size) := by omega
  have hny1 : ¬ (u2.heap.size = u3.heap.size + 1) := by omega
  have hky1 : u2.heap.size < u3.heap.size + 1 := by omega
  have hny2 : ¬ (u2.heap.size = u3.heap.size + 1 + 1) := by omega
  have hky2 : u2.heap.size < u3.heap.size + 1 + 1 := by omega
  have hB := hB'; clear hB'
  have hsz := hB.size
  clear hown1 hs_u3
  go_wp2_with fail
  ((with_reducible refine (HR.out _ (hv.below (by go_grown)) (hl.below (by go_grown))).mono ?_); rintro _ q1 ⟨rfl, hb⟩)
  have T : q1.cell? ⟨w.heap.size, 0, none⟩ = some (.int .u8 b) ∧ q1.cell? ⟨w.heap.size, 1, none⟩ = some (.int .i64 n) := by
      refine ⟨?_, ?_⟩ <;> refine kc hb ?_ <;> (go_simp; first | done | rfl)
  have hz := hb.size
  (try simp only [World.size_alloc, World.size_setCell, World.size_drew] at hz)
  have hlx' : w.heap.size < q1.heap.size := by omega
  have hB' : Below w.heap.size w q1 := by
      refine kb ?_ hb
      go_grown
  clear hx_0 hx_1 hy_0 hy_1 hlx hly hnx0 hnx1 hkx1 hnx2 hkx2 hny0 hny1 hky1 hny2 hky2 hB hsz
  clear hb hz
  obtain ⟨hx_0, hx_1⟩ := T
  have hlx := hlx'; clear hlx'
  have hnx0 : ¬ (w.heap.size = q1.heap.size) := by omega
  have hnx1 : ¬ (w.heap.size = q1.heap.size + 1) := by omega
  have hkx1 : w.heap.size < q1.heap.size + 1 := by omega
  have hnx2 : ¬ (w.heap.size = q1.heap.size + 1 + 1) := by omega
  have hkx2 : w.heap.size < q1.heap.size + 1 + 1 := by omega
  have hB := hB'; clear hB'
  have hsz := hB.size
  go_wp2_with fail
  ((with_reducible refine (HA.out _ (hl.below (by go_grown))).mono ?_); rintro _ q2 ⟨rfl, hb⟩)
  have hz := hb.size
  (try simp only [World.size_alloc, World.size_setCell, World.size_drew] at hz)
  have hB' : Below w.heap.size w q2 := by
      refine kb ?_ hb
      go_grown
  clear hx_0 hx_1 hlx hnx0 hnx1 hkx1 hnx2 hkx2 hB hsz
  clear hb hz
  have hB := hB'; clear hB'
  have hsz := hB.size
  go_wp2
  go_ret
  exact ⟨rfl, by go_grown⟩
set_option maxRecDepth 100000 in
set_option maxHeartbeats 4000000 in
theorem back_b1 (b : Nat) (hb : b < 256) (n : Int) (P : ByteArray) (X l : List Int) (p : Option Addr) (c : Nat) (a E G : Int) (o : Nat) (m : Int) (k : Nat) (e : Int) (h : l.length ≤ 10)
    (hP : ∀ w, Laid w → Calls Tryd.prog 10 #[.agg #[.int .u8 b, .int .i64 n]] w fun e w' => e = .returned (.tuple #[.string P, .int .i64 E]) ∧ Below w.heap.size w w')
    (hQ : E = 0 → ∀ w, Laid w → LaidE w → Calls Tryd.prog 14 #[.string P] w fun x w' => x = .returned (.tuple #[.agg #[.int .u8 b, .int .i64 n], .int .i64 0]) ∧ Below w.heap.size w w')
    (hB : ∀ w, Laid w → Calls Tryd.prog 16 #[.agg #[.int .u8 b, .int .i64 n], .int .i64 a] w (BytesEnd w X G))
    (hR1 : G = 0 → ∀ v w, HoldsC w v X → Laid w → Calls Tryd.prog 18 #[v, .int .i64 a] w fun x w' => x = .returned (.tuple #[.agg #[.int .u8 b, .int .i64 n], .int .i64 (X.length : Int), .int .i64 0]) ∧ Below w.heap.size w w')
    (hR : ∀ w, HoldsC w (.slice p l.length c) l → Laid w → Calls Tryd.prog 18 #[.slice p l.length c, .int .i64 a] w fun x w' => x = .returned (.tuple #[.agg #[.int .u8 o, .int .i64 m], .int .i64 k, .int .i64 e]) ∧ Below w.heap.size w w')
    (hZ : e ≠ 0 → o = 0 ∧ m = 0 ∧ k = 0) (hK : e = 0 → 1 ≤ k ∧ k ≤ l.length)
    (hBo : e = 0 → ∀ w, Laid w → Calls Tryd.prog 16 #[.agg #[.int .u8 o, .int .i64 m], .int .i64 a] w (BytesEnd w (l.take k) 0)) (hE0 : E = 0) (hG0 : G ≠ 0) (he0 : e = 0) (w : World) (hv : HoldsC w (.slice p l.length c) l) (hl : Laid w) (hE : LaidE w) :
    Calls Tryd.prog 6 #[.agg #[.int .u8 b, .int .i64 n], .slice p l.length c, .int .i64 a] w (LawEnd w) := by
  have hd : decide ((10 : Int) < (l.length : Int)) = false := decide_eq_false (by omega)
  have HA := Lib.hid awake_c
  have HP := Lib.hid hP
  have HR := Lib.hid hR
  subst hE0
  have HQ := Lib.hid (hQ rfl)
  have HB := Lib.hid hB
  have e2 : (G == 0) = false := by rw [beq_eq_false_iff_ne]; exact hG0
  subst he0
  have HBo := Lib.hid (hBo rfl)
  obtain ⟨k1, k2⟩ := hK rfl
  obtain ⟨g, go, rfl, hcap⟩ : ∃ g go, p = some ⟨g, go, none⟩ ∧ l.length ≤ c := by
    have hc := hv.2 _ _ _ rfl
    rcases hv.holds with ⟨h1, h2⟩ | ⟨g, go, cap, h1, _⟩
    · rw [h2] at k2; simp at k2; omega
    · cases h1; exact ⟨g, go, rfl, hc⟩
  have qs := fun W => slice_to g go l.length c k (by omega) W
  have HT := Lib.hid (fun W (h : Holds W (.slice (some ⟨g, go, none⟩) l.length c) l) => holds_take h k k2)
  have d1 : decide ((1 : Int) ≤ (k : Int)) = true := decide_eq_true (by omega)
  have d2 : decide ((k : Int) ≤ (l.length : Int)) = true := decide_eq_true (by omega)
  have hl10 : (l.take k).length ≤ 1000000 := by rw [List.length_take]; omega
  generalize hkI : (k : Int) = kI at HR qs d1 d2
  have HkI := Lib.hid hkI
  clear hcap k1 k2 hkI hK hZ hR
  clear hP hQ hB hR1 hBo h hG0
  go_enter Tryd.func6, Tryd.ntmps6
  go_wp2_with fail
  ((with_reducible refine (HP.out _ (hl.below (by go_grown))).mono ?_); rintro _ u1 ⟨rfl, hb⟩)
  have T : u1.cell? ⟨w.heap.size, 0, none⟩ = some (.int .u8 b) ∧ u1.cell? ⟨w.heap.size, 1, none⟩ = some (.int .i64 n) := by
      refine ⟨?_, ?_⟩ <;> refine kc hb ?_ <;> (go_simp; first | done | rfl)
  have hz := hb.size
  (try simp only [World.size_alloc, World.size_setCell, World.size_drew] at hz)
  have hlx' : w.heap.size < u1.heap.size := by omega
  have hB' : Below w.heap.size w u1 := by
      refine kb ?_ hb
      go_grown
  clear hb hz
  obtain ⟨hx_0, hx_1⟩ := T
  have hlx := hlx'; clear hlx'
  have hnx0 : ¬ (w.heap.size = u1.heap.size) := by omega
  have hnx1 : ¬ (w.heap.size = u1.heap.size + 1) := by omega
  have hkx1 : w.heap.size < u1.heap.size + 1 := by omega
  have hnx2 : ¬ (w.heap.size = u1.heap.size + 1 + 1) := by omega
  have hkx2 : w.heap.size < u1.heap.size + 1 + 1 := by omega
  have hB := hB'; clear hB'
  have hsz := hB.size
  go_wp2_with fail
  ((with_reducible refine (HQ.out _ (hl.below (by go_grown)) (hE.below (by go_grown))).mono ?_); rintro _ u2 ⟨rfl, hb⟩)
  have T : u2.cell? ⟨w.heap.size, 0, none⟩ = some (.int .u8 b) ∧ u2.cell? ⟨w.heap.size, 1, none⟩ = some (.int .i64 n) := by
      refine ⟨?_, ?_⟩ <;> refine kc hb ?_ <;> (go_simp; first | done | rfl)
  have hz := hb.size
  (try simp only [World.size_alloc, World.size_setCell, World.size_drew] at hz)
  have hlx' : w.heap.size < u2.heap.size := by omega
  have hB' : Below w.heap.size w u2 := by
      refine kb ?_ hb
      go_grown
  clear hx_0 hx_1 hlx hnx0 hnx1 hkx1 hnx2 hkx2 hB hsz
  clear hb hz
  obtain ⟨hx_0, hx_1⟩ := T
  have hlx := hlx'; clear hlx'
  have hnx0 : ¬ (w.heap.size = u2.heap.size) := by omega
  have hnx1 : ¬ (w.heap.size = u2.heap.size + 1) := by omega
  have hkx1 : w.heap.size < u2.heap.size + 1 := by omega
  have hnx2 : ¬ (w.heap.size = u2.heap.size + 1 + 1) := by omega
  have hkx2 : w.heap.size < u2.heap.size + 1 + 1 := by omega
  have hB := hB'; clear hB'
  have hsz := hB.size
  go_wp2_with fail
  ((with_reducible refine (HB.out _ (hl.below (by go_grown))).mono ?_); rintro _ u3 ⟨v1, rfl, hown1, hb⟩)
  have hs_u3 := Lib.hid hb
  have T : u3.cell? ⟨w.heap.size, 0, none⟩ = some (.int .u8 b) ∧ u3.cell? ⟨w.heap.size, 1, none⟩ = some (.int .i64 n) ∧ u3.cell? ⟨u2.heap.size, 0, none⟩ = some (.int .u8 b) ∧ u3.cell? ⟨u2.heap.size, 1, none⟩ = some (.int .i64 n) := by
      refine ⟨?_, ?_, ?_, ?_⟩ <;> refine kc hb ?_ <;> (go_simp; first | done | rfl)
  have hz := hb.size
  (try simp only [World.size_alloc, World.size_setCell, World.size_drew] at hz)
  have hlx' : w.heap.size < u3.heap.size := by omega
  have hly' : u2.heap.size < u3.heap.size := by omega
  have hB' : Below w.heap.size w u3 := by
      refine kb ?_ hb
      go_grown
  clear hx_0 hx_1 hlx hnx0 hnx1 hkx1 hnx2 hkx2 hB hsz
  clear hb hz
  obtain ⟨hx_0, hx_1, hy_0, hy_1⟩ := T
  have hlx := hlx'; clear hlx'
  have hly := hly'; clear hly'
  have hnx0 : ¬ (w.heap.size = u3.heap.size) := by omega
  have hnx1 : ¬ (w.heap.size = u3.heap.size + 1) := by omega
  have hkx1 : w.heap.size < u3.heap.size + 1 := by omega
  have hnx2 : ¬ (w.heap.size = u3.heap.size + 1 + 1) := by omega
  have hkx2 : w.heap.size < u3.heap.size + 1 + 1 := by omega
  have hny0 : ¬ (u2.heap.size = u3.heap.size) := by omega
  have hny1 : ¬ (u2.heap.size = u3.heap.size + 1) := by omega
  have hky1 : u2.heap.size < u3.heap.size + 1 := by omega
  have hny2 : ¬ (u2.heap.size = u3.heap.size + 1 + 1) := by omega
  have hky2 : u2.heap.size < u3.heap.size + 1 + 1 := by omega
  have hB := hB'; clear hB'
  have hsz := hB.size
  clear hown1 hs_u3
  go_wp2_with fail
  ((with_reducible refine (HR.out _ (hv.below (by go_grown)) (hl.below (by go_grown))).mono ?_); rintro _ q1 ⟨rfl, hb⟩)
  have T : q1.cell? ⟨w.heap.size, 0, none⟩ = some (.int .u8 b) ∧ q1.cell? ⟨w.heap.size, 1, none⟩ = some (.int .i64 n) := by
      refine ⟨?_, ?_⟩ <;> refine kc hb ?_ <;> (go_simp; first | done | rfl)
  have hz := hb.size
  (try simp only [World.size_alloc, World.size_setCell, World.size_drew] at hz)
  have hlx' : w.heap.size < q1.heap.size := by omega
  have hB' : Below w.heap.size w q1 := by
      refine kb ?_ hb
      go_grown
  clear hx_0 hx_1 hy_0 hy_1 hlx hly hnx0 hnx1 hkx1 hnx2 hkx2 hny0 hny1 hky1 hny2 hky2 hB hsz
  clear hb hz
  obtain ⟨hx_0, hx_1⟩ := T
  have hlx := hlx'; clear hlx'
  have hnx0 : ¬ (w.heap.size = q1.heap.size) := by omega
  have hnx1 : ¬ (w.heap.size = q1.heap.size + 1) := by omega
  have hkx1 : w.heap.size < q1.heap.size + 1 := by omega
  have hnx2 : ¬ (w.heap.size = q1.heap.size + 1 + 1) := by omega
  have hkx2 : w.heap.size < q1.heap.size + 1 + 1 := by omega
  have hB := hB'; clear hB'
  have hsz := hB.size
  go_wp2_with fail
  ((with_reducible refine (HBo.out _ (hl.below (by go_grown))).mono ?_); rintro _ q2 ⟨v3, rfl, hown3, hb⟩)
  have hs_q2 := Lib.hid hb
  have hz := hb.size
  (try simp only [World.size_alloc, World.size_setCell, World.size_drew] at hz)
  have hB' : Below w.heap.size w q2 := by
      refine kb ?_ hb
      go_grown
  clear hx_0 hx_1 hlx hnx0 hnx1 hkx1 hnx2 hkx2 hB hsz
  clear hb hz
  have hB := hB'; clear hB'
  have hsz := hB.size
  have H3 := Lib.hid (holds_own hown3)
  clear hown3 hs_q2
  go_wp2_with fail
  have hS := same_c v3 _ (l.take k) (l.take k) q2 H3.out (HT.out _ (hv.holds.below hB)) hl10
  rw [show (l.take k == l.take k) = true from by simp] at hS
  ((with_reducible refine (hS).mono ?_); rintro _ q3 ⟨rfl, hb⟩)
  have hz := hb.size
  (try simp only [World.size_alloc, World.size_setCell, World.size_drew] at hz)
  have hB' : Below w.heap.size w q3 := by
      refine kb ?_ hb
      go_grown
  clear hB hsz
  clear hb hz
  have hB := hB'; clear hB'
  have hsz := hB.size
  clear hS H3
  go_wp2_with fail
  ((with_reducible refine (HA.out _ (hl.below (by go_grown))).mono ?_); rintro _ q4 ⟨rfl, hb⟩)
  have hz := hb.size
  (try simp only [World.size_alloc, World.size_setCell, World.size_drew] at hz)
  have hB' : Below w.heap.size w q4 := by
      refine kb ?_ hb
      go_grown
  clear hB hsz
  clear hb hz
  have hB := hB'; clear hB'
  have hsz := hB.size
  go_wp2
  go_ret
  exact ⟨rfl, by go_grown⟩
set_option maxRecDepth 100000 in
set_option maxHeartbeats 4000000 in
theorem back_c0 (b : Nat) (hb : b < 256) (n : Int) (P : ByteArray) (X l : List Int) (p : Option Addr) (c : Nat) (a E G : Int) (o : Nat) (m : Int) (k : Nat) (e : Int) (h : l.length ≤ 10)
    (hP : ∀ w, Laid w → Calls Tryd.prog 10 #[.agg #[.int .u8 b, .int .i64 n]] w fun e w' => e = .returned (.tuple #[.string P, .int .i64 E]) ∧ Below w.heap.size w w')
    (hQ : E = 0 → ∀ w, Laid w → LaidE w → Calls Tryd.prog 14 #[.string P] w fun x w' => x = .returned (.tuple #[.agg #[.int .u8 b, .int .i64 n], .int .i64 0]) ∧ Below w.heap.size w w')
    (hB : ∀ w, Laid w → Calls Tryd.prog 16 #[.agg #[.int .u8 b, .int .i64 n], .int .i64 a] w (BytesEnd w X G))
    (hR1 : G = 0 → ∀ v w, HoldsC w v X → Laid w → Calls Tryd.prog 18 #[v, .int .i64 a] w fun x w' => x = .returned (.tuple #[.agg #[.int .u8 b, .int .i64 n], .int .i64 (X.length : Int), .int .i64 0]) ∧ Below w.heap.size w w')
    (hR : ∀ w, HoldsC w (.slice p l.length c) l → Laid w → Calls Tryd.prog 18 #[.slice p l.length c, .int .i64 a] w fun x w' => x = .returned (.tuple #[.agg #[.int .u8 o, .int .i64 m], .int .i64 k, .int .i64 e]) ∧ Below w.heap.size w w')
    (hZ : e ≠ 0 → o = 0 ∧ m = 0 ∧ k = 0) (hK : e = 0 → 1 ≤ k ∧ k ≤ l.length)
    (hBo : e = 0 → ∀ w, Laid w → Calls Tryd.prog 16 #[.agg #[.int .u8 o, .int .i64 m], .int .i64 a] w (BytesEnd w (l.take k) 0)) (hE0 : E = 0) (hG0 : G = 0) (he0 : e ≠ 0) (w : World) (hv : HoldsC w (.slice p l.length c) l) (hl : Laid w) (hE : LaidE w) :
    Calls Tryd.prog 6 #[.agg #[.int .u8 b, .int .i64 n], .slice p l.length c, .int .i64 a] w (LawEnd w) := by
  have hd : decide ((10 : Int) < (l.length : Int)) = false := decide_eq_false (by omega)
  have HA := Lib.hid awake_c
  have HP := Lib.hid hP
  have HR := Lib.hid hR
  subst hE0
  have HQ := Lib.hid (hQ rfl)
  have HB := Lib.hid hB
  subst hG0
  have HR1 := Lib.hid (hR1 rfl)
  have e3 : (e != 0) = true := by rw [bne_iff_ne]; exact he0
  obtain ⟨rfl, rfl, rfl⟩ := hZ he0
  clear hP hQ hB hR1 hBo h he0
  clear hR hZ hK
  go_enter Tryd.func6, Tryd.ntmps6
  go_wp2_with fail
  ((with_reducible refine (HP.out _ (hl.below (by go_grown))).mono ?_); rintro _ u1 ⟨rfl, hb⟩)
  have T : u1.cell? ⟨w.heap.size, 0, none⟩ = some (.int .u8 b) ∧ u1.cell? ⟨w.heap.size, 1, none⟩ = some (.int .i64 n) := by
      refine ⟨?_, ?_⟩ <;> refine kc hb ?_ <;> (go_simp; first | done | rfl)
  have hz := hb.size
  (try simp only [World.size_alloc, World.size_setCell, World.size_drew] at hz)
  have hlx' : w.heap.size < u1.heap.size := by omega
  have hB' : Below w.heap.size w u1 := by
      refine kb ?_ hb
      go_grown
  clear hb hz
  obtain ⟨hx_0, hx_1⟩ := T
  have hlx := hlx'; clear hlx'
  have hnx0 : ¬ (w.heap.size = u1.heap.size) := by omega
  have hnx1 : ¬ (w.heap.size = u1.heap.size + 1) := by omega
  have hkx1 : w.heap.size < u1.heap.size + 1 := by omega
  have hnx2 : ¬ (w.heap.size = u1.heap.size + 1 + 1) := by omega
  have hkx2 : w.heap.size < u1.heap.size + 1 + 1 := by omega
  have hB := hB'; clear hB'
  have hsz := hB.size
  go_wp2_with fail
  ((with_reducible refine (HQ.out _ (hl.below (by go_grown)) (hE.below (by go_grown))).mono ?_); rintro _ u2 ⟨rfl, hb⟩)
  have T : u2.cell? ⟨w.heap.size, 0, none⟩ = some (.int .u8 b) ∧ u2.cell? ⟨w.heap.size, 1, none⟩ = some (.int .i64 n) := by
      refine ⟨?_, ?_⟩ <;> refine kc hb ?_ <;> (go_simp; first | done | rfl)
  have hz := hb.size
  (try simp only [World.size_alloc, World.size_setCell, World.size_drew] at hz)
  have hlx' : w.heap.size < u2.heap.size := by omega
  have hB' : Below w.heap.size w u2 := by
      refine kb ?_ hb
      go_grown
  clear hx_0 hx_1 hlx hnx0 hnx1 hkx1 hnx2 hkx2 hB hsz
  clear hb hz
  obtain ⟨hx_0, hx_1⟩ := T
  have hlx := hlx'; clear hlx'
  have hnx0 : ¬ (w.heap.size = u2.heap.size) := by omega
  have hnx1 : ¬ (w.heap.size = u2.heap.size + 1) := by omega
  have hkx1 : w.heap.size < u2.heap.size + 1 := by omega
  have hnx2 : ¬ (w.heap.size = u2.heap.size + 1 + 1) := by omega
  have hkx2 : w.heap.size < u2.heap.size + 1 + 1 := by omega
  have hB := hB'; clear hB'
  have hsz := hB.size
  go_wp2_with fail
  ((with_reducible refine (HB.out _ (hl.below (by go_grown))).mono ?_); rintro _ u3 ⟨v1, rfl, hown1, hb⟩)
  have hs_u3 := Lib.hid hb
  have T : u3.cell? ⟨w.heap.size, 0, none⟩ = some (.int .u8 b) ∧ u3.cell? ⟨w.heap.size, 1, none⟩ = some (.int .i64 n) ∧ u3.cell? ⟨u2.heap.size, 0, none⟩ = some (.int .u8 b) ∧ u3.cell? ⟨u2.heap.size, 1, none⟩ = some (.int .i64 n) := by
      refine ⟨?_, ?_, ?_, ?_⟩ <;> refine kc hb ?_ <;> (go_simp; first | done | rfl)
  have hz := hb.size
  (try simp only [World.size_alloc, World.size_setCell, World.size_drew] at hz)
  have hlx' : w.heap.size < u3.heap.size := by omega
  have hly' : u2.heap.size < u3.heap.size := by omega
  have hB' : Below w.heap.size w u3 := by
      refine kb ?_ hb
      go_grown
  clear hx_0 hx_1 hlx hnx0 hnx1 hkx1 hnx2 hkx2 hB hsz
  clear hb hz
  obtain ⟨hx_0, hx_1, hy_0, hy_1⟩ := T
  have hlx := hlx'; clear hlx'
  have hly := hly'; clear hly'
  have hnx0 : ¬ (w.heap.size = u3.heap.size) := by omega
  have hnx1 : ¬ (w.heap.size = u3.heap.size + 1) := by omega
  have hkx1 : w.heap.size < u3.heap.size + 1 := by omega
  have hnx2 : ¬ (w.heap.size = u3.heap.size + 1 + 1) := by omega
  have hkx2 : w.heap.size < u3.heap.size + 1 + 1 := by omega
  have hny0 : ¬ (u2.heap.size = u3.heap.size) := by omega
  have hny1 : ¬ (u2.heap.size = u3.heap.size + 1) := by omega
  have hky1 : u2.heap.size < u3.heap.size + 1 := by omega
  have hny2 : ¬ (u2.heap.size = u3.heap.size + 1 + 1) := by omega
  have hky2 : u2.heap.size < u3.heap.size + 1 + 1 := by omega
  have hB := hB'; clear hB'
  have hsz := hB.size
  have hC1 := Lib.hid (holdsC_own hown1)
  obtain ⟨p1, c1, rfl, _⟩ := hC1.out.holds.form
  clear hown1 hs_u3
  go_wp2_with fail
  ((with_reducible refine (HR1.out _ _ hC1.out (hl.below (by go_grown))).mono ?_); rintro _ u4 ⟨rfl, hb⟩)
  have T : u4.cell? ⟨w.heap.size, 0, none⟩ = some (.int .u8 b) ∧ u4.cell? ⟨w.heap.size, 1, none⟩ = some (.int .i64 n) ∧ u4.cell? ⟨u2.heap.size, 0, none⟩ = some (.int .u8 b) ∧ u4.cell? ⟨u2.heap.size, 1, none⟩ = some (.int .i64 n) := by
      refine ⟨?_, ?_, ?_, ?_⟩ <;> refine kc hb ?_ <;> (go_simp; first | done | rfl)
  have hz := hb.size
  (try simp only [World.size_alloc, World.size_setCell, World.size_drew] at hz)
  have hlx' : w.heap.size < u4.heap.size := by omega
  have hly' : u2.heap.size < u4.heap.size := by omega
  have hB' : Below w.heap.size w u4 := by
      refine kb ?_ hb
      go_grown
  clear hx_0 hx_1 hy_0 hy_1 hlx hly hnx0 hnx1 hkx1 hnx2 hkx2 hny0 hny1 hky1 hny2 hky2 hB hsz
  clear hb hz
  obtain ⟨hx_0, hx_1, hy_0, hy_1⟩ := T
  have hlx := hlx'; clear hlx'
  have hly := hly'; clear hly'
  have hnx0 : ¬ (w.heap.size = u4.heap.size) := by omega
  have hnx1 : ¬ (w.heap.size = u4.heap.size + 1) := by omega
  have hkx1 : w.heap.size < u4.heap.size + 1 := by omega
  have hnx2 : ¬ (w.heap.size = u4.heap.size + 1 + 1) := by omega
  have hkx2 : w.heap.size < u4.heap.size + 1 + 1 := by omega
  have hny0 : ¬ (u2.heap.size = u4.heap.size) := by omega
  have hny1 : ¬ (u2.heap.size = u4.heap.size + 1) := by omega
  have hky1 : u2.heap.size < u4.heap.size + 1 := by omega
  have hny2 : ¬ (u2.heap.size = u4.heap.size + 1 + 1) := by omega
  have hky2 : u2.heap.size < u4.heap.size + 1 + 1 := by omega
  have hB := hB'; clear hB'
  have hsz := hB.size
  clear hC1
  go_wp2_with fail
  ((with_reducible refine (HR.out _ (hv.below (by go_grown)) (hl.below (by go_grown))).mono ?_); rintro _ q1 ⟨rfl, hb⟩)
  have T : q1.cell? ⟨w.heap.size, 0, none⟩ = some (.int .u8 b) ∧ q1.cell? ⟨w.heap.size, 1, none⟩ = some (.int .i64 n) := by
      refine ⟨?_, ?_⟩ <;> refine kc hb ?_ <;> (go_simp; first | done | rfl)
  have hz := hb.size
  (try simp only [World.size_alloc, World.size_setCell, World.size_drew] at hz)
  have hlx' : w.heap.size < q1.heap.size := by omega
  have hB' : Below w.heap.size w q1 := by
      refine kb ?_ hb
      go_grown
  clear hx_0 hx_1 hy_0 hy_1 hlx hly hnx0 hnx1 hkx1 hnx2 hkx2 hny0 hny1 hky1 hny2 hky2 hB hsz
  clear hb hz
  obtain ⟨hx_0, hx_1⟩ := T
  have hlx := hlx'; clear hlx'
  have hnx0 : ¬ (w.heap.size = q1.heap.size) := by omega
  have hnx1 : ¬ (w.heap.size = q1.heap.size + 1) := by omega
  have hkx1 : w.heap.size < q1.heap.size + 1 := by omega
  have hnx2 : ¬ (w.heap.size = q1.heap.size + 1 + 1) := by omega
  have hkx2 : w.heap.size < q1.heap.size + 1 + 1 := by omega
  have hB := hB'; clear hB'
  have hsz := hB.size
  go_wp2_with fail
  ((with_reducible refine (HA.out _ (hl.below (by go_grown))).mono ?_); rintro _ q2 ⟨rfl, hb⟩)
  have hz := hb.size
  (try simp only [World.size_alloc, World.size_setCell, World.size_drew] at hz)
  have hB' : Below w.heap.size w q2 := by
      refine kb ?_ hb
      go_grown
  clear hx_0 hx_1 hlx hnx0 hnx1 hkx1 hnx2 hkx2 hB hsz
  clear hb hz
  have hB := hB'; clear hB'
  have hsz := hB.size
  go_wp2
  go_ret
  exact ⟨rfl, by go_grown⟩
set_option maxRecDepth 100000 in
set_option maxHeartbeats 4000000 in
theorem back_c1 (b : Nat) (hb : b < 256) (n : Int) (P : ByteArray) (X l : List Int) (p : Option Addr) (c : Nat) (a E G : Int) (o : Nat) (m : Int) (k : Nat) (e : Int) (h : l.length ≤ 10)
    (hP : ∀ w, Laid w → Calls Tryd.prog 10 #[.agg #[.int .u8 b, .int .i64 n]] w fun e w' => e = .returned (.tuple #[.string P, .int .i64 E]) ∧ Below w.heap.size w w')
    (hQ : E = 0 → ∀ w, Laid w → LaidE w → Calls Tryd.prog 14 #[.string P] w fun x w' => x = .returned (.tuple #[.agg #[.int .u8 b, .int .i64 n], .int .i64 0]) ∧ Below w.heap.size w w')
    (hB : ∀ w, Laid w → Calls Tryd.prog 16 #[.agg #[.int .u8 b, .int .i64 n], .int .i64 a] w (BytesEnd w X G))
    (hR1 : G = 0 → ∀ v w, HoldsC w v X → Laid w → Calls Tryd.prog 18 #[v, .int .i64 a] w fun x w' => x = .returned (.tuple #[.agg #[.int .u8 b, .int .i64 n], .int .i64 (X.length : Int), .int .i64 0]) ∧ Below w.heap.size w w')
    (hR : ∀ w, HoldsC w (.slice p l.length c) l → Laid w → Calls Tryd.prog 18 #[.slice p l.length c, .int .i64 a] w fun x w' => x = .returned (.tuple #[.agg #[.int .u8 o, .int .i64 m], .int .i64 k, .int .i64 e]) ∧ Below w.heap.size w w')
    (hZ : e ≠ 0 → o = 0 ∧ m = 0 ∧ k = 0) (hK : e = 0 → 1 ≤ k ∧ k ≤ l.length)
    (hBo : e = 0 → ∀ w, Laid w → Calls Tryd.prog 16 #[.agg #[.int .u8 o, .int .i64 m], .int .i64 a] w (BytesEnd w (l.take k) 0)) (hE0 : E = 0) (hG0 : G = 0) (he0 : e = 0) (w : World) (hv : HoldsC w (.slice p l.length c) l) (hl : Laid w) (hE : LaidE w) :
    Calls Tryd.prog 6 #[.agg #[.int .u8 b, .int .i64 n], .slice p l.length c, .int .i64 a] w (LawEnd w) := by
  have hd : decide ((10 : Int) < (l.length : Int)) = false := decide_eq_false (by omega)
  have HA := Lib.hid awake_c
  have HP := Lib.hid hP
  have HR := Lib.hid hR
  subst hE0
  have HQ := Lib.hid (hQ rfl)
  have HB := Lib.hid hB
  subst hG0
  have HR1 := Lib.hid (hR1 rfl)
  subst he0
  have HBo := Lib.hid (hBo rfl)
  obtain ⟨k1, k2⟩ := hK rfl
  obtain ⟨g, go, rfl, hcap⟩ : ∃ g go, p = some ⟨g, go, none⟩ ∧ l.length ≤ c := by
    have hc := hv.2 _ _ _ rfl
    rcases hv.holds with ⟨h1, h2⟩ | ⟨g, go, cap, h1, _⟩
    · rw [h2] at k2; simp at k2; omega
    · cases h1; exact ⟨g, go, rfl, hc⟩
  have qs := fun W => slice_to g go l.length c k (by omega) W
  have HT := Lib.hid (fun W (h : Holds W (.slice (some ⟨g, go, none⟩) l.length c) l) => holds_take h k k2)
  have d1 : decide ((1 : Int) ≤ (k : Int)) = true := decide_eq_true (by omega)
  have d2 : decide ((k : Int) ≤ (l.length : Int)) = true := decide_eq_true (by omega)
  have hl10 : (l.take k).length ≤ 1000000 := by rw [List.length_take]; omega
  generalize hkI : (k : Int) = kI at HR qs d1 d2
  have HkI := Lib.hid hkI
  clear hcap k1 k2 hkI hK hZ hR
  clear hP hQ hB hR1 hBo h
  go_enter Tryd.func6, Tryd.ntmps6
  go_wp2_with fail
  ((with_reducible refine (HP.out _ (hl.below (by go_grown))).mono ?_); rintro _ u1 ⟨rfl, hb⟩)
  have T : u1.cell? ⟨w.heap.size, 0, none⟩ = some (.int .u8 b) ∧ u1.cell? ⟨w.heap.size, 1, none⟩ = some (.int .i64 n) := by
      refine ⟨?_, ?_⟩ <;> refine kc hb ?_ <;> (go_simp; first | done | rfl)
  have hz := hb.size
  (try simp only [World.size_alloc, World.size_setCell, World.size_drew] at hz)
  have hlx' : w.heap.size < u1.heap.size := by omega
  have hB' : Below w.heap.size w u1 := by
      refine kb ?_ hb
      go_grown
  clear hb hz
  obtain ⟨hx_0, hx_1⟩ := T
  have hlx := hlx'; clear hlx'
  have hnx0 : ¬ (w.heap.size = u1.heap.size) := by omega
  have hnx1 : ¬ (w.heap.size = u1.heap.size + 1) := by omega
  have hkx1 : w.heap.size < u1.heap.size + 1 := by omega
  have hnx2 : ¬ (w.heap.size = u1.heap.size + 1 + 1) := by omega
  have hkx2 : w.heap.size < u1.heap.size + 1 + 1 := by omega
  have hB := hB'; clear hB'
  have hsz := hB.size
  go_wp2_with fail
  ((with_reducible refine (HQ.out _ (hl.below (by go_grown)) (hE.below (by go_grown))).mono ?_); rintro _ u2 ⟨rfl, hb⟩)
  have T : u2.cell? ⟨w.heap.size, 0, none⟩ = some (.int .u8 b) ∧ u2.cell? ⟨w.heap.size, 1, none⟩ = some (.int .i64 n) := by
      refine ⟨?_, ?_⟩ <;> refine kc hb ?_ <;> (go_simp; first | done | rfl)
  have hz := hb.size
  (try simp only [World.size_alloc, World.size_setCell, World.size_drew] at hz)
  have hlx' : w.heap.size < u2.heap.size := by omega
  have hB' : Below w.heap.size w u2 := by
      refine kb ?_ hb
      go_grown
  clear hx_0 hx_1 hlx hnx0 hnx1 hkx1 hnx2 hkx2 hB hsz
  clear hb hz
  obtain ⟨hx_0, hx_1⟩ := T
  have hlx := hlx'; clear hlx'
  have hnx0 : ¬ (w.heap.size = u2.heap.size) := by omega
  have hnx1 : ¬ (w.heap.size = u2.heap.size + 1) := by omega
  have hkx1 : w.heap.size < u2.heap.size + 1 := by omega
  have hnx2 : ¬ (w.heap.size = u2.heap.size + 1 + 1) := by omega
  have hkx2 : w.heap.size < u2.heap.size + 1 + 1 := by omega
  have hB := hB'; clear hB'
  have hsz := hB.size
  go_wp2_with fail
  ((with_reducible refine (HB.out _ (hl.below (by go_grown))).mono ?_); rintro _ u3 ⟨v1, rfl, hown1, hb⟩)
  have hs_u3 := Lib.hid hb
  have T : u3.cell? ⟨w.heap.size, 0, none⟩ = some (.int .u8 b) ∧ u3.cell? ⟨w.heap.size, 1, none⟩ = some (.int .i64 n) ∧ u3.cell? ⟨u2.heap.size, 0, none⟩ = some (.int .u8 b) ∧ u3.cell? ⟨u2.heap.size, 1, none⟩ = some (.int .i64 n) := by
      refine ⟨?_, ?_, ?_, ?_⟩ <;> refine kc hb ?_ <;> (go_simp; first | done | rfl)
  have hz := hb.size
  (try simp only [World.size_alloc, World.size_setCell, World.size_drew] at hz)
  have hlx' : w.heap.size < u3.heap.size := by omega
  have hly' : u2.heap.size < u3.heap.size := by omega
  have hB' : Below w.heap.size w u3 := by
      refine kb ?_ hb
      go_grown
  clear hx_0 hx_1 hlx hnx0 hnx1 hkx1 hnx2 hkx2 hB hsz
  clear hb hz
  obtain ⟨hx_0, hx_1, hy_0, hy_1⟩ := T
  have hlx := hlx'; clear hlx'
  have hly := hly'; clear hly'
  have hnx0 : ¬ (w.heap.size = u3.heap.size) := by omega
  have hnx1 : ¬ (w.heap.size = u3.heap.size + 1) := by omega
  have hkx1 : w.heap.size < u3.heap.size + 1 := by omega
  have hnx2 : ¬ (w.heap.size = u3.heap.size + 1 + 1) := by omega
  have hkx2 : w.heap.size < u3.heap.size + 1 + 1 := by omega
  have hny0 : ¬ (u2.heap.size = u3.heap.size) := by omega
  have hny1 : ¬ (u2.heap.size = u3.heap.size + 1) := by omega
  have hky1 : u2.heap.size < u3.heap.size + 1 := by omega
  have hny2 : ¬ (u2.heap.size = u3.heap.size + 1 + 1) := by omega
  have hky2 : u2.heap.size < u3.heap.size + 1 + 1 := by omega
  have hB := hB'; clear hB'
  have hsz := hB.size
  have hC1 := Lib.hid (holdsC_own hown1)
  obtain ⟨p1, c1, rfl, _⟩ := hC1.out.holds.form
  clear hown1 hs_u3
  go_wp2_with fail
  ((with_reducible refine (HR1.out _ _ hC1.out (hl.below (by go_grown))).mono ?_); rintro _ u4 ⟨rfl, hb⟩)
  have T : u4.cell? ⟨w.heap.size, 0, none⟩ = some (.int .u8 b) ∧ u4.cell? ⟨w.heap.size, 1, none⟩ = some (.int .i64 n) ∧ u4.cell? ⟨u2.heap.size, 0, none⟩ = some (.int .u8 b) ∧ u4.cell? ⟨u2.heap.size, 1, none⟩ = some (.int .i64 n) := by
      refine ⟨?_, ?_, ?_, ?_⟩ <;> refine kc hb ?_ <;> (go_simp; first | done | rfl)
  have hz := hb.size
  (try simp only [World.size_alloc, World.size_setCell, World.size_drew] at hz)
  have hlx' : w.heap.size < u4.heap.size := by omega
  have hly' : u2.heap.size < u4.heap.size := by omega
  have hB' : Below w.heap.size w u4 := by
      refine kb ?_ hb
      go_grown
  clear hx_0 hx_1 hy_0 hy_1 hlx hly hnx0 hnx1 hkx1 hnx2 hkx2 hny0 hny1 hky1 hny2 hky2 hB hsz
  clear hb hz
  obtain ⟨hx_0, hx_1, hy_0, hy_1⟩ := T
  have hlx := hlx'; clear hlx'
  have hly := hly'; clear hly'
  have hnx0 : ¬ (w.heap.size = u4.heap.size) := by omega
  have hnx1 : ¬ (w.heap.size = u4.heap.size + 1) := by omega
  have hkx1 : w.heap.size < u4.heap.size + 1 := by omega
  have hnx2 : ¬ (w.heap.size = u4.heap.size + 1 + 1) := by omega
  have hkx2 : w.heap.size < u4.heap.size + 1 + 1 := by omega
  have hny0 : ¬ (u2.heap.size = u4.heap.size) := by omega
  have hny1 : ¬ (u2.heap.size = u4.heap.size + 1) := by omega
  have hky1 : u2.heap.size < u4.heap.size + 1 := by omega
  have hny2 : ¬ (u2.heap.size = u4.heap.size + 1 + 1) := by omega
  have hky2 : u2.heap.size < u4.heap.size + 1 + 1 := by omega
  have hB := hB'; clear hB'
  have hsz := hB.size
  clear hC1
  go_wp2_with fail
  ((with_reducible refine (HR.out _ (hv.below (by go_grown)) (hl.below (by go_grown))).mono ?_); rintro _ q1 ⟨rfl, hb⟩)
  have T : q1.cell? ⟨w.heap.size, 0, none⟩ = some (.int .u8 b) ∧ q1.cell? ⟨w.heap.size, 1, none⟩ = some (.int .i64 n) := by
      refine ⟨?_, ?_⟩ <;> refine kc hb ?_ <;> (go_simp; first | done | rfl)
  have hz := hb.size
  (try simp only [World.size_alloc, World.size_setCell, World.size_drew] at hz)
  have hlx' : w.heap.size < q1.heap.size := by omega
  have hB' : Below w.heap.size w q1 := by
      refine kb ?_ hb
      go_grown
  clear hx_0 hx_1 hy_0 hy_1 hlx hly hnx0 hnx1 hkx1 hnx2 hkx2 hny0 hny1 hky1 hny2 hky2 hB hsz
  clear hb hz
  obtain ⟨hx_0, hx_1⟩ := T
  have hlx := hlx'; clear hlx'
  have hnx0 : ¬ (w.heap.size = q1.heap.size) := by omega
  have hnx1 : ¬ (w.heap.size = q1.heap.size + 1) := by omega
  have hkx1 : w.heap.size < q1.heap.size + 1 := by omega
  have hnx2 : ¬ (w.heap.size = q1.heap.size + 1 + 1) := by omega
  have hkx2 : w.heap.size < q1.heap.size + 1 + 1 := by omega
  have hB := hB'; clear hB'
  have hsz := hB.size
  go_wp2_with fail
  ((with_reducible refine (HBo.out _ (hl.below (by go_grown))).mono ?_); rintro _ q2 ⟨v3, rfl, hown3, hb⟩)
  have hs_q2 := Lib.hid hb
  have hz := hb.size
  (try simp only [World.size_alloc, World.size_setCell, World.size_drew] at hz)
  have hB' : Below w.heap.size w q2 := by
      refine kb ?_ hb
      go_grown
  clear hx_0 hx_1 hlx hnx0 hnx1 hkx1 hnx2 hkx2 hB hsz
  clear hb hz
  have hB := hB'; clear hB'
  have hsz := hB.size
  have H3 := Lib.hid (holds_own hown3)
  clear hown3 hs_q2
  go_wp2_with fail
  have hS := same_c v3 _ (l.take k) (l.take k) q2 H3.out (HT.out _ (hv.holds.below hB)) hl10
  rw [show (l.take k == l.take k) = true from by simp] at hS
  ((with_reducible refine (hS).mono ?_); rintro _ q3 ⟨rfl, hb⟩)
  have hz := hb.size
  (try simp only [World.size_alloc, World.size_setCell, World.size_drew] at hz)
  have hB' : Below w.heap.size w q3 := by
      refine kb ?_ hb
      go_grown
  clear hB hsz
  clear hb hz
  have hB := hB'; clear hB'
  have hsz := hB.size
  clear hS H3
  go_wp2_with fail
  ((with_reducible refine (HA.out _ (hl.below (by go_grown))).mono ?_); rintro _ q4 ⟨rfl, hb⟩)
  have hz := hb.size
  (try simp only [World.size_alloc, World.size_setCell, World.size_drew] at hz)
  have hB' : Below w.heap.size w q4 := by
      refine kb ?_ hb
      go_grown
  clear hB hsz
  clear hb hz
  have hB := hB'; clear hB'
  have hsz := hB.size
  go_wp2
  go_ret
  exact ⟨rfl, by go_grown⟩
theorem back_walk (b : Nat) (hb : b < 256) (n : Int) (l : List Int) (hbs : ∀ x ∈ l, 0 ≤ x ∧ x < 256) (v : Value) (a : Int) (w : World) (hv : HoldsC w v l) (hl : Laid w) (hE : LaidE w) :
    Calls Tryd.prog 6 #[.agg #[.int .u8 b, .int .i64 n], v, .int .i64 a] w (LawEnd w) := by
  obtain ⟨p, c, rfl, _⟩ := hv.holds.form
  by_cases h : l.length ≤ 10
  · have hr := bytes_read l hbs a
    have hP := fun W hl => printl_c b hb n W hl
    have hQ : wrongD b n = 0 → ∀ w, Laid w → LaidE w → Calls Tryd.prog 14 #[.string (txB (printL b n))] w fun x w' => x = .returned (.tuple #[.agg #[.int .u8 b, .int .i64 n], .int .i64 0]) ∧ Below w.heap.size w w' := fun h0 W hl hE => by
      have h1 := parsep_c (printL b n) (by
        unfold printL
        rw [if_pos h0]
        obtain ⟨q, hq, _, _⟩ := wrong_zero b n h0
        unfold textD
        rw [hq]
        have h3 := name_len ⟨q / 13, by have := place_bound b hb q hq; omega⟩
        dsimp only at h3
        have h4 := tail_is n.toNat (q % 13) (Nat.mod_lt _ (by omega))
        have h5 := bef_len ⟨q % 13, Nat.mod_lt _ (by omega)⟩
        have h6 := aft_len ⟨q % 13, Nat.mod_lt _ (by omega)⟩
        have h7 := dg_four (q % 13) (Nat.mod_lt _ (by omega))
        dsimp only at h5 h6
        rw [List.length_append, h3, h4, List.length_append, List.length_append, digsL_len]
        omega) W hl hE
      obtain ⟨e1, e2, e3⟩ := parse_print b hb n h0
      rw [e1, e2, e3] at h1
      exact h1
    have hB := fun W hl => bytp_c b hb n a W hl
    have hR1 : bytesE b n a = 0 → ∀ v w, HoldsC w v (bytesL b n a) → Laid w → Calls Tryd.prog 18 #[v, .int .i64 a] w fun x w' => x = .returned (.tuple #[.agg #[.int .u8 b, .int .i64 n], .int .i64 ((bytesL b n a).length : Int), .int .i64 0]) ∧ Below w.heap.size w w' := fun h0 v W hv hl => by
      have h1 := readp_c (bytesL b n a) (bytes_bytes b hb n a) v a W hv hl
      rw [read_bytes b hb n a h0] at h1
      exact h1
    rcases hr with ⟨r1, r2, r3, r4⟩ | ⟨o, K, r0, r1, r2, r3, r4, r5, r6, r7⟩
    · have hR : ∀ w, HoldsC w (.slice p l.length c) l → Laid w → Calls Tryd.prog 18 #[.slice p l.length c, .int .i64 a] w fun x w' => x = .returned (.tuple #[.agg #[.int .u8 ((0 : Nat) : Int), .int .i64 0], .int .i64 ((0 : Nat) : Int), .int .i64 (readD l a).e]) ∧ Below w.heap.size w w' := fun W hv hl => by
        have h1 := readp_c l hbs _ a W hv hl
        rw [r2, r3, r4] at h1
        exact h1
      by_cases hE0 : wrongD b n = 0
      · by_cases hG0 : bytesE b n a = 0
        · exact back_c0 b hb n _ _ l p c a _ _ 0 0 0 _ h hP hQ hB hR1 hR (fun _ => ⟨rfl, rfl, rfl⟩) (fun h => absurd h r1) (fun h => absurd h r1) hE0 hG0 r1 w hv hl hE
        · exact back_b0 b hb n _ _ l p c a _ _ 0 0 0 _ h hP hQ hB hR1 hR (fun _ => ⟨rfl, rfl, rfl⟩) (fun h => absurd h r1) (fun h => absurd h r1) hE0 hG0 r1 w hv hl hE
      · exact back_a0 b hb n _ _ l p c a _ _ 0 0 0 _ h hP hQ hB hR1 hR (fun _ => ⟨rfl, rfl, rfl⟩) (fun h => absurd h r1) (fun h => absurd h r1) hE0 r1 w hv hl hE
    · have hR : ∀ w, HoldsC w (.slice p l.length c) l → Laid w → Calls Tryd.prog 18 #[.slice p l.length c, .int .i64 a] w fun x w' => x = .returned (.tuple #[.agg #[.int .u8 (o : Int), .int .i64 (readD l a).n], .int .i64 (K : Int), .int .i64 0]) ∧ Below w.heap.size w w' := fun W hv hl => by
        have h1 := readp_c l hbs _ a W hv hl
        rw [r1, r2, r3] at h1
        exact h1
      have hBo : (0 : Int) = 0 → ∀ w, Laid w → Calls Tryd.prog 16 #[.agg #[.int .u8 o, .int .i64 (readD l a).n], .int .i64 a] w (BytesEnd w (l.take K) 0) := fun _ W hl => by
        have h1 := bytp_c o r0 (readD l a).n a W hl
        rw [r6, r7] at h1
        exact h1
      by_cases hE0 : wrongD b n = 0
      · by_cases hG0 : bytesE b n a = 0
        · exact back_c1 b hb n _ _ l p c a _ _ o _ K 0 h hP hQ hB hR1 hR (fun h => absurd rfl h) (fun _ => ⟨r4, r5⟩) hBo hE0 hG0 rfl w hv hl hE
        · exact back_b1 b hb n _ _ l p c a _ _ o _ K 0 h hP hQ hB hR1 hR (fun h => absurd rfl h) (fun _ => ⟨r4, r5⟩) hBo hE0 hG0 rfl w hv hl hE
      · exact back_a1 b hb n _ _ l p c a _ _ o _ K 0 h hP hQ hB hR1 hR (fun h => absurd rfl h) (fun _ => ⟨r4, r5⟩) hBo hE0 rfl w hv hl hE
  · exact back_long b n p l.length c a h w hl
end Go.Proofs.YtpjpoopgafcedaaDoor
