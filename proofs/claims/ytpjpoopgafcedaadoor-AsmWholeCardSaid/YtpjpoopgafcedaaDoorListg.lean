/-
  Layer 5, the program: List.
-/
import Derived.Test.YtpjpoopgafcedaaDoorListp
set_option linter.unusedSimpArgs false
set_option linter.unusedVariables false
namespace Go.Proofs.YtpjpoopgafcedaaDoor
open Go.RowKit Go.PlainAid Go.Joins

set_option maxRecDepth 100000 in
set_option maxHeartbeats 1000000 in
theorem listp_long (p : Option Addr) (L c : Nat) (a : Int) (h : 65536 < L) (w : World) :
    Calls Tryd.prog 21 #[.slice p L c, .int .i64 a] w fun e w' => e = .returned (.tuple #[.string ⟨#[]⟩, .int .i64 0, .int .i64 12]) ∧ Below w.heap.size w w' := by
  have hd : decide ((65536 : Int) < (L : Int)) = true := decide_eq_true (by omega)
  clear h
  go_enter Tryd.func21, Tryd.ntmps21
  go_wp2
  refine bodyPost_ret (v := .tuple #[.string ⟨#[]⟩, .int .i64 0, .int .i64 12]) (by simp [results, Tryd.results21, go_sem]) rfl ⟨rfl, by go_grown⟩
set_option maxRecDepth 100000 in
set_option maxHeartbeats 4000000 in
theorem listp_c (l : List Int) (hbs : ∀ x ∈ l, 0 ≤ x ∧ x < 256) (p : Option Addr) (c : Nat) (a : Int) (ha : -9223372036854775808 ≤ a ∧ a ≤ 9223372036854775807) (h : l.length ≤ 65536) (w : World) (hv : HoldsC w (.slice p l.length c) l) (hl : Laid w) :
    Calls Tryd.prog 21 #[.slice p l.length c, .int .i64 a] w fun e w' => e = .returned (.tuple #[.string (txB (listD l a).1), .int .i64 (listD l a).2.1, .int .i64 (listD l a).2.2]) ∧ Below w.heap.size w w' := by
  have hd : decide ((65536 : Int) < (l.length : Int)) = false := decide_eq_false (by omega)
  obtain ⟨R, hR⟩ : ∃ R, listD l a = R := ⟨_, rfl⟩
  rw [hR]
  have HR := Lib.hid hR
  have HL := Lib.hid h
  have Ha := Lib.hid ha
  have Hbs := Lib.hid hbs
  clear hR h ha hbs
  go_enter Tryd.func21, Tryd.ntmps21
  go_wp2
  go_loopw [8] (fun q wr => ∃ (pos f : Nat) (acc : List UInt8) (Q : Int), q = .int .i64 Q ∧ Hid (Q = pos ∧ pos ≤ l.length ∧ l.length ≤ pos + f ∧ acc.length ≤ 21 * pos ∧ listEnd acc (listR l a f pos) = R ∧ (pos = 0 ∨ (0 ≤ a ∧ a ≤ 65535))) ∧ Hid (Lib.IsBuilderF 84 5 w.heap.size w.heap.size (Lib.byteCells acc) wr) ∧ Below w.heap.size w wr) (fun q _ => l.length - (intOf q).toNat)
  case atStart =>
    refine ⟨0, l.length, [], 0, rfl, Lib.hid ⟨rfl, by omega, by omega, by simp, (listEnd_nil l a _ _).trans HR.out, .inl rfl⟩, Lib.hid ?_, by go_grown⟩
    exact Lib.IsBuilderF.of (Lib.fresh_isBuilder _ _ w)
  case round =>
    obtain ⟨pos, f, acc, Q, rfl, HQ, HBu, hB⟩ := hrel
    obtain ⟨x1, x2, x3, x4, x5, x6⟩ := HQ.out
    by_cases hlt : pos < l.length
    · have hdl : decide (Q < (l.length : Int)) = true := decide_eq_true (by omega)
      obtain ⟨g, go, rfl, hcap⟩ : ∃ g go, p = some ⟨g, go, none⟩ ∧ l.length ≤ c := by
        have hc := hv.2 _ _ _ rfl
        rcases hv.holds with ⟨h1, h2⟩ | ⟨g, go, cap, h1, _⟩
        · rw [h2] at hlt; simp at hlt
        · cases h1; exact ⟨g, go, rfl, hc⟩
      obtain ⟨f, rfl⟩ : ∃ f', f = f' + 1 := ⟨f - 1, by omega⟩
      have qs := fun W => slice_from g go l.length c pos (by omega) (by omega) W
      have HF := Lib.hid ((holds_from hv pos (by omega)).below hB)
      have hlr := hl.below hB
      have hbd : ∀ x ∈ l.drop pos, 0 ≤ x ∧ x < 256 := fun x hx => Hbs.out x (List.mem_of_mem_drop hx)
      have hl65 := HL.out
      have w1 : IntKind.i64.wrap (a + Q) = a + Q := IntWalk.i64_in _ (by have := Ha.out; rcases x6 with h | h <;> omega)
      rw [← x1] at qs
      obtain ⟨D, hD⟩ : ∃ D, readD (l.drop pos) (a + Q) = D := ⟨_, rfl⟩
      have HRd := Lib.hid (fun W h hl => readp_c (l.drop pos) hbd (.slice (some ⟨g, go + pos, none⟩) (l.length - pos) (c - pos)) (a + Q) W h hl)
      have r1 := listEnd_err l a f pos acc (by omega)
      have r2 := listEnd_step l a f pos acc (by omega)
      have r3 := read_ok (l.drop pos) hbd (a + Q)
      rw [← x1, hD] at r1 r2
      rw [hD] at r3
      rw [hD] at HRd
      obtain ⟨o, n, k, e⟩ := D
      dsimp only at r1 r2 r3
      have hbr : Below wr.heap.size wr wr := Below.refl _ _
      have hnr := hB.size
      by_cases he : e = 0
      · subst he
        obtain ⟨b, K, hb, rfl, rfl, hk1, hk2, hw0, ha1, ha2, _⟩ := r3 rfl
        have HP := Lib.hid (printl_c b hb n)
        rw [hw0] at HP
        have HS := Lib.hid (r2 rfl)
        have hkl : K ≤ l.length - pos := by rw [List.length_drop] at hk2; exact hk2
        have hpl := print_len b hb n
        have hsc : Q + K = ((pos + K : Nat) : Int) := by omega
        have w2 : IntKind.i64.wrap (Q + (K : Int)) = Q + K := IntWalk.i64_in _ (by omega)
        generalize hKI : (K : Int) = KI at HRd w2 hsc
        have HB := Lib.hid hB
        have HKI := Lib.hid (And.intro hKI (And.intro hsc (And.intro hkl (And.intro hk1 ha1))))
        clear hD r1 r2 r3 hbd hk2 hKI x1 x2 x3 x4 x5 x6 hkl hk1 ha1 hsc
        clear hB
        go_wp2_with fail
        ((with_reducible refine (HRd.out _ (HF.out.below (by go_grown)) (hlr.below (by go_grown))).mono ?_); rintro _ q1 ⟨rfl, hb⟩)
        have hz := hb.size
        (try simp only [World.size_alloc, World.size_setCell, World.size_drew] at hz)
        have hB' : Below wr.heap.size wr q1 := by
            refine kb ?_ hb
            go_grown
        clear hb hz
        have hB := hB'; clear hB'
        have hsz := hB.size
        go_wp2_with fail
        ((with_reducible refine (HP.out _ (hlr.below (by go_grown))).mono ?_); rintro _ q2 ⟨rfl, hb⟩)
        have T : q2.cell? ⟨q1.heap.size, 0, none⟩ = some (.int .u8 b) ∧ q2.cell? ⟨q1.heap.size, 1, none⟩ = some (.int .i64 n) := by
            refine ⟨?_, ?_⟩ <;> refine kc hb ?_ <;> (go_simp; first | done | rfl)
        have hz := hb.size
        (try simp only [World.size_alloc, World.size_setCell, World.size_drew] at hz)
        have hly' : q1.heap.size < q2.heap.size := by omega
        have hB' : Below wr.heap.size wr q2 := by
            refine kb ?_ hb
            go_grown
        clear hB hsz
        clear hb hz
        obtain ⟨hy_0, hy_1⟩ := T
        have hly := hly'; clear hly'
        have hny0 : ¬ (q1.heap.size = q2.heap.size) := by omega
        have hny1 : ¬ (q1.heap.size = q2.heap.size + 1) := by omega
        have hky1 : q1.heap.size < q2.heap.size + 1 := by omega
        have hny2 : ¬ (q1.heap.size = q2.heap.size + 1 + 1) := by omega
        have hky2 : q1.heap.size < q2.heap.size + 1 + 1 := by omega
        have hB := hB'; clear hB'
        have hsz := hB.size
        go_wp2_with fail
        have es : txB (printL b n) ++ ({ data := #[10] } : ByteArray) = txB (printL b n ++ [10]) := txB_append _ [10]
        rw [es]
        refine (Tryd.writes w.heap.size w.heap.size acc (printL b n ++ [10]) q2 (builder_below HBu.out (by go_grown)) ?_ ?_).mono ?_
        · have h4 := HQ.out.2.2.2.1; have h2 := HQ.out.2.1; have h3 := HL.out; rw [List.length_append]; simp only [List.length_cons, List.length_nil]; omega
        · have := hB.size; omega
        rintro _ u ⟨rfl, hBu2, hb2⟩
        have HBn := Lib.hid hBu2
        have hB : Below w.heap.size w u := (HB.out.trans (Below.mono (by go_grown : Below wr.heap.size wr _) hnr)).trans hb2
        clear hBu2 HBu
        go_wp2
        go_roundw
        case rel =>
          obtain ⟨k1, k2, k3, k4, k5⟩ := HKI.out
          obtain ⟨x1, x2, x3, x4, x5, x6⟩ := HQ.out
          refine ⟨pos + K, f, acc ++ (printL b n ++ [10]), Q + KI, rfl, Lib.hid ⟨k2, by omega, by omega, ?_, ?_, ?_⟩, HBn, hB⟩
          · rw [List.length_append, List.length_append]; simp only [List.length_cons, List.length_nil]; omega
          · have h := HS.out
            rw [Int.toNat_natCast, Int.toNat_natCast] at h
            rw [← h]; exact x5
          · right
            rcases x6 with h | h <;> omega
        case measure =>
          obtain ⟨k1, k2, k3, k4, k5⟩ := HKI.out
          have x1 := HQ.out.1
          simp only [intOf]; omega
      · have HE := Lib.hid (x5.symm.trans (r1 he))
        have he2 : (e != 0) = true := by simp [bne, he]
        have HB := Lib.hid hB
        clear r1 r2 r3 hD x1 x2 x3 x4 x5 x6 HQ hbd hl65 HBu hB
        go_wp2_with fail
        ((with_reducible refine (HRd.out _ (HF.out.below (by go_grown)) (hlr.below (by go_grown))).mono ?_); rintro _ q1 ⟨rfl, hb⟩)
        have hz := hb.size
        (try simp only [World.size_alloc, World.size_setCell, World.size_drew] at hz)
        have hB' : Below wr.heap.size wr q1 := by
            refine kb ?_ hb
            go_grown
        clear hb hz
        have hB := hB'; clear hB'
        have hsz := hB.size
        go_wp2
        refine bodyPost_ret (v := .tuple #[.string ⟨#[]⟩, .int .i64 Q, .int .i64 e]) (by simp [results, Tryd.results21, go_sem]) rfl ⟨by rw [HE.out], HB.out.trans (Below.mono (by go_grown : Below wr.heap.size wr _) hnr)⟩
    · have hdl : decide (Q < (l.length : Int)) = false := decide_eq_false (by omega)
      have HE := Lib.hid (show R = (acc, 0, 0) from by
        rw [← x5, listR_end l a f pos (by omega)]
        unfold listEnd
        simp)
      clear x1 x2 x3 x4 x5 x6 HQ hlt
      go_wp2_with fail
      refine (Tryd.Builder_String_any_k w.heap.size w.heap.size acc wr HBu.out hB.size).mono ?_
      rintro _ u ⟨rfl, _, hb, _⟩
      have hB2 := hB.trans hb
      clear hB hb
      go_wp2
      refine bodyPost_ret (v := .tuple #[.string (txB acc), .int .i64 0, .int .i64 0]) (by simp [results, Tryd.results21, go_sem]) rfl ⟨by rw [HE.out], hB2⟩
end Go.Proofs.YtpjpoopgafcedaaDoor
