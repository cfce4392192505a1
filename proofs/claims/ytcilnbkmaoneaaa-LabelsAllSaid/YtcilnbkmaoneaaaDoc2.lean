/-
  Layer 7's document: one more span; a place in a text.
-/
import Derived.Test.YtcilnbkmaoneaaaDoc1
set_option linter.unusedSimpArgs false
set_option linter.unusedVariables false
namespace Go.Proofs.Ytcilnbkmaoneaaa
open Go.RowKit Go.PlainAid

/-- What is wrong with one more span, by lists, as the document has it. -/
def addD (x : Sp) (own other : List Sp) : Int := if 64 ≤ own.length + other.length then 18 else if own.any (meetB x) then 16 else if other.any (meetB x) then 15 else 0
set_option maxRecDepth 100000 in
set_option maxHeartbeats 1000000 in
theorem addr_c (f t b : Int) (l m : List Sp) (hl : l.length ≤ 100000) (hm : m.length ≤ 100000) (v u : Value) (w : World) (hv : HoldsD w v l) (hu : HoldsD w u m) :
    Calls Try.prog 23 #[.agg #[.int .i64 f, .int .i64 t, .int .i64 b], v, u] w fun e w' => e = .returned (.int .i64 (addD ⟨f, t, b⟩ l m)) ∧ Below w.heap.size w w' := by
  have HM1 := Lib.hid (fun W (hb : Below w.heap.size w W) => meets_c f t b l hl v W (hv.below hb))
  have HM2 := Lib.hid (fun W (hb : Below w.heap.size w W) => meets_c f t b m hm u W (hu.below hb))
  obtain ⟨a1, c1, rfl⟩ := hv.form
  obtain ⟨a2, c2, rfl⟩ := hu.form
  clear hv hu
  obtain ⟨R1, hR1⟩ : ∃ R, l.any (meetB ⟨f, t, b⟩) = R := ⟨_, rfl⟩
  obtain ⟨R2, hR2⟩ : ∃ R, m.any (meetB ⟨f, t, b⟩) = R := ⟨_, rfl⟩
  have HE := Lib.hid (show addD ⟨f, t, b⟩ l m = if 64 ≤ l.length + m.length then 18 else if R1 then 16 else if R2 then 15 else 0 from by rw [← hR1, ← hR2]; rfl)
  rw [hR1] at HM1
  rw [hR2] at HM2
  clear hR1 hR2
  obtain ⟨E, hE⟩ : ∃ E, addD ⟨f, t, b⟩ l m = E := ⟨_, rfl⟩
  rw [hE] at HE ⊢
  clear hE
  generalize l.length = n1 at *
  generalize m.length = n2 at *
  by_cases h : 64 ≤ n1 + n2
  · have HF := Lib.hid (show E = 18 from by rw [HE.out, if_pos h])
    go_enter Try.func23, Try.ntmps23
    go_wp2
    go_ret
    exact ⟨ret_i64 HF.out.symm, by go_grown⟩
  · have HF := Lib.hid (show E = if R1 then 16 else if R2 then 15 else 0 from by rw [HE.out, if_neg h])
    clear HE
    go_enter Try.func23, Try.ntmps23
    go_wp2_with fail
    ((with_reducible refine (HM1.out _ (by go_grown)).mono ?_); rintro _ u1 ⟨rfl, hb⟩)
    have T : CC u1 w.heap.size 0 1 (.int .i64 f) (.int .i64 t) ∧ u1.cell? ⟨w.heap.size, 2, none⟩ = some (.int .i64 b) := by
        refine ⟨⟨?_, ?_⟩, ?_⟩ <;> refine kc hb ?_ <;> (go_simp; first | done | rfl)
    have hz := hb.size
    (try simp only [World.size_alloc, World.size_setCell, World.size_drew] at hz)
    have L : w.heap.size < u1.heap.size := by omega
    have hB' : Below w.heap.size w u1 := by
        refine kb ?_ hb
        go_grown
    clear hb hz
    obtain ⟨⟨hs_0, hs_1⟩, hs_2⟩ := T
    have hls := L; clear L
    obtain ⟨hns0, hns1, hks1, hns2, hks2⟩ := ap0 hls
    have hB := hB'; clear hB'
    have hsz := hB.size
    cases R1
    · go_wp2_with fail
      ((with_reducible refine (HM2.out _ hB).mono ?_); rintro _ u2 ⟨rfl, hb⟩)
      have T : CC u2 w.heap.size 0 1 (.int .i64 f) (.int .i64 t) ∧ u2.cell? ⟨w.heap.size, 2, none⟩ = some (.int .i64 b) := by
          refine ⟨⟨?_, ?_⟩, ?_⟩ <;> refine kc hb ?_ <;> (go_simp; first | done | rfl)
      have hz := hb.size
      (try simp only [World.size_alloc, World.size_setCell, World.size_drew] at hz)
      have L : w.heap.size < u2.heap.size := by omega
      have hB' : Below w.heap.size w u2 := by
          refine kb ?_ hb
          go_grown
      clear hs_0 hs_1 hs_2 hls hns0 hns1 hks1 hns2 hks2 hB hsz
      clear hb hz
      obtain ⟨⟨hs_0, hs_1⟩, hs_2⟩ := T
      have hls := L; clear L
      obtain ⟨hns0, hns1, hks1, hns2, hks2⟩ := ap0 hls
      have hB := hB'; clear hB'
      have hsz := hB.size
      cases R2
      · go_wp2
        go_ret
        exact ⟨ret_i64 HF.out.symm, hB⟩
      · go_wp2
        go_ret
        exact ⟨ret_i64 HF.out.symm, hB⟩
    · go_wp2
      go_ret
      exact ⟨ret_i64 HF.out.symm, hB⟩
end Go.Proofs.Ytcilnbkmaoneaaa
