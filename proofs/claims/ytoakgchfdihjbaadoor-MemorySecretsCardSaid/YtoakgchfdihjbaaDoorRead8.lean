/-
  Layer 8's document: Read, and Write.
-/
import Derived.Test.YtoakgchfdihjbaaDoorAt8
set_option linter.unusedSimpArgs false
set_option linter.unusedVariables false
namespace Go.Proofs.YtoakgchfdihjbaaDoor
open Go.RowKit Go.PlainAid

/-- What Read answers: the byte's numbers, and the error. -/
structure RdO where
  v : Int
  t : Int
  e : Int
def readP (L : List Pt) (a : Int) : RdO := if a < 0 ∨ 65535 < a then ⟨0, 0, 10⟩ else if devB a = true then ⟨0, 0, 15⟩ else ⟨(atP L a).1, (atP L a).2, 0⟩
theorem rdO_ret {w w' : World} {o : RdO} {v t e : Int} (h : o = ⟨v, t, e⟩) (hb : Below w.heap.size w w') : (Ending.returned (.tuple #[.agg #[.int .u8 v, .int .u8 t], .int .i64 e]) = .returned (.tuple #[.agg #[.int .u8 o.v, .int .u8 o.t], .int .i64 o.e])) ∧ Below w.heap.size w w' := by
  subst h; exact ⟨rfl, hb⟩
set_option maxRecDepth 100000 in
set_option maxHeartbeats 2000000 in
theorem readr_c (L : List Pt) (hl : L.length ≤ 100000) (a : Int) (mb S0 : Nat) (v : Value) (w : World) (hR : Rm mb S0 w L v) :
    Calls Tryd.prog 13 #[.pointer (some ⟨mb, 0, none⟩), .int .i64 a] w fun e w' => e = .returned (.tuple #[.agg #[.int .u8 (readP L a).v, .int .u8 (readP L a).t], .int .i64 (readP L a).e]) ∧ Below w.heap.size w w' := by
  have H1 := Lib.hid (fun W => devr_c a W)
  have H2 := Lib.hid (fun W (hb : Below w.heap.size w W) => atr_c L hl a mb S0 v W (hR.on hb))
  obtain ⟨R, hRR⟩ : ∃ R, readP L a = R := ⟨_, rfl⟩
  rw [hRR]
  have HR := Lib.hid hRR
  clear hRR
  unfold readP at HR
  generalize devB a = D at *
  obtain ⟨⟨bv, bt⟩, hb⟩ : ∃ B, atP L a = B := ⟨_, rfl⟩
  rw [hb] at HR H2
  dsimp only at HR H2
  clear hb hR
  by_cases h1 : a < 0
  · have HF := Lib.hid (show R = ⟨0, 0, 10⟩ from by rw [← HR.out, if_pos (.inl h1)])
    go_enter Tryd.func13, Tryd.ntmps13
    go_wp2
    refine bodyPost_ret (v := .tuple #[.agg #[.int .u8 0, .int .u8 0], .int .i64 10]) (by simp [results, Tryd.results13, go_sem] <;> first | done | rfl) rfl (rdO_ret HF.out (by go_grown))
  · by_cases h2 : 65535 < a
    · have HF := Lib.hid (show R = ⟨0, 0, 10⟩ from by rw [← HR.out, if_pos (.inr h2)])
      go_enter Tryd.func13, Tryd.ntmps13
      go_wp2
      refine bodyPost_ret (v := .tuple #[.agg #[.int .u8 0, .int .u8 0], .int .i64 10]) (by simp [results, Tryd.results13, go_sem] <;> first | done | rfl) rfl (rdO_ret HF.out (by go_grown))
    · have HF := Lib.hid (show R = if D = true then ⟨0, 0, 15⟩ else ⟨bv, bt, 0⟩ from by rw [← HR.out, if_neg (by omega)])
      clear HR
      go_enter Tryd.func13, Tryd.ntmps13
      go_wp2_with fail
      ((with_reducible refine (H1.out _).mono ?_); rintro _ u1 ⟨rfl, hb⟩)
      have T : CF u1 w.heap.size 0 (.int .u8 0) ∧ CF u1 w.heap.size 1 (.int .u8 0) := by
          refine ⟨⟨?_, ?_⟩, ⟨?_, ?_⟩⟩ <;> first | (refine kc hb ?_ <;> (go_simp; first | done | rfl)) | (refine kfz hb ?_ ?_ <;> first | (go_size; done) | (go_simp; done))
      have hz := hb.size
      (try simp only [World.size_alloc, World.size_setCell, World.size_drew] at hz)
      have L : w.heap.size < u1.heap.size := by omega
      have hB' : Below w.heap.size w u1 := by
          refine kb ?_ hb
          go_grown
      clear hb hz
      obtain ⟨⟨hz_0, fz_0⟩, ⟨hz_1, fz_1⟩⟩ := T
      have hlz := L; clear L
      obtain ⟨hnz0, hnz1, hkz1, hnz2, hkz2⟩ := ap0 hlz
      have hB := hB'; clear hB'
      have hsz := hB.size
      cases D
      · go_wp2_with fail
        ((with_reducible refine (H2.out _ hB).mono ?_); rintro _ u2 ⟨rfl, hb⟩)
        have T : CF u2 w.heap.size 0 (.int .u8 0) ∧ CF u2 w.heap.size 1 (.int .u8 0) := by
            refine ⟨⟨?_, ?_⟩, ⟨?_, ?_⟩⟩ <;> first | (refine kc hb ?_ <;> (go_simp; first | done | rfl)) | (refine kfz hb ?_ ?_ <;> first | (go_size; done) | (go_simp; done))
        have hz := hb.size
        (try simp only [World.size_alloc, World.size_setCell, World.size_drew] at hz)
        have L : w.heap.size < u2.heap.size := by omega
        have hB' : Below w.heap.size w u2 := by
            refine kb ?_ hb
            go_grown
        clear hz_0 fz_0 hz_1 fz_1 hlz hnz0 hnz1 hkz1 hnz2 hkz2 hB hsz
        clear hb hz
        obtain ⟨⟨hz_0, fz_0⟩, ⟨hz_1, fz_1⟩⟩ := T
        have hlz := L; clear L
        obtain ⟨hnz0, hnz1, hkz1, hnz2, hkz2⟩ := ap0 hlz
        have hB := hB'; clear hB'
        have hsz := hB.size
        go_wp2
        refine bodyPost_ret (v := .tuple #[.agg #[.int .u8 bv, .int .u8 bt], .int .i64 0]) (by simp [results, Tryd.results13, go_sem, hz_0, hz_1] <;> first | done | rfl) rfl (rdO_ret HF.out (by go_grown))
      · go_wp2
        refine bodyPost_ret (v := .tuple #[.agg #[.int .u8 0, .int .u8 0], .int .i64 15]) (by simp [results, Tryd.results13, go_sem, hz_0, hz_1] <;> first | done | rfl) rfl (rdO_ret HF.out (by go_grown))
end Go.Proofs.YtoakgchfdihjbaaDoor
