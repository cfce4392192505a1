/-
  Layer 7: policies, and a policy that is sorted.
-/
import Derived.Test.YtcilnbkmaoneaaaDoorClone
set_option linter.unusedSimpArgs false
set_option linter.unusedVariables false
namespace Go.Proofs.YtcilnbkmaoneaaaDoor
open Go.Shelf Go.RowKit Go.Lib Go.Sort Go.PlainAid

/-- A policy: secrets, sinks, how many may be told, how long a trace is. -/
structure Pol where
  s : List Sp
  k : List Sp
  d : Int
  t : Int
deriving DecidableEq
def HoldsP (w : World) (v : Value) (p : Pol) : Prop := ∃ v1 v2, v = .agg #[v1, v2, .int .i64 p.d, .int .i64 p.t] ∧ HoldsS w v1 p.s ∧ HoldsS w v2 p.k
theorem HoldsP.below {w u : World} {v : Value} {p : Pol} (h : HoldsP w v p) (hb : Below w.heap.size w u) : HoldsP u v p := by
  obtain ⟨v1, v2, rfl, h1, h2⟩ := h
  exact ⟨v1, v2, rfl, h1.below hb, h2.below hb⟩
def sortP (p : Pol) : Pol := ⟨sortS p.s, sortS p.k, p.d, p.t⟩
theorem sortP_idem (p : Pol) : sortP (sortP p) = sortP p := by simp [sortP, sortS_idem]
def AnsP (w : World) (p : Pol) : Ending → World → Prop := fun e w' => ∃ v1 v2, e = .returned (.agg #[v1, v2, .int .i64 p.d, .int .i64 p.t]) ∧ HoldsS w' v1 p.s ∧ HoldsS w' v2 p.k ∧ (∀ g, v1.ownBlock = some g → w.heap.size ≤ g) ∧ (∀ g, v2.ownBlock = some g → w.heap.size ≤ g) ∧ Below w.heap.size w w'
set_option maxRecDepth 100000 in
theorem sorted_c (p : Pol) (hl : p.s.length ≤ 100000 ∧ p.k.length ≤ 100000) (v : Value) (w : World) (hv : HoldsP w v p) : Calls Tryd.prog 24 #[v] w (AnsP w (sortP p)) := by
  obtain ⟨v1, v2, rfl, h1, h2⟩ := hv
  obtain ⟨ps, pk, pd, pt⟩ := p
  dsimp only at h1 h2 hl ⊢
  obtain ⟨a1, c1, rfl⟩ := h1.form
  obtain ⟨a2, c2, rfl⟩ := h2.form
  obtain ⟨n1, hn1⟩ : ∃ n, ps.length = n := ⟨_, rfl⟩
  obtain ⟨n2, hn2⟩ : ∃ n, pk.length = n := ⟨_, rfl⟩
  rw [hn1] at h1 ⊢
  rw [hn2] at h2 ⊢
  have HS1 := Lib.hid (fun W hb => sortedSpans_c ps hl.1 (.slice a1 n1 c1) W (h1.below hb))
  have HS2 := Lib.hid (fun W hb => sortedSpans_c pk hl.2 (.slice a2 n2 c2) W (h2.below hb))
  unfold AnsS at HS1 HS2
  clear h1 h2 hl hn1 hn2
  have e1 := sortS_len ps
  have e2 := sortS_len pk
  have HE := Lib.hid (And.intro e1 e2)
  clear e1 e2
  go_enter Tryd.func24, Tryd.ntmps24
  go_wp2_with fail
  ((with_reducible refine (HS1.out _ (((Below.refl _ w).alloc (Nat.le_refl _) _).alloc (by simp) _)).mono ?_); rintro _ u1 ⟨x1, rfl, hx1, hy1, hb⟩)
  have hs_u1 := Lib.hid hb
  have T : CF u1 w.heap.size 0 (.slice a1 n1 c1) ∧ CF u1 w.heap.size 1 (.slice a2 n2 c2) ∧ CF u1 w.heap.size 2 (.int .i64 pd) ∧ CF u1 w.heap.size 3 (.int .i64 pt) ∧ CF u1 (w.heap.size + 1) 0 (.slice none 0 0) ∧ CF u1 (w.heap.size + 1) 1 (.slice none 0 0) ∧ CF u1 (w.heap.size + 1) 2 (.int .i64 0) ∧ CF u1 (w.heap.size + 1) 3 (.int .i64 0) := by
      refine ⟨⟨?_, ?_⟩, ⟨?_, ?_⟩, ⟨?_, ?_⟩, ⟨?_, ?_⟩, ⟨?_, ?_⟩, ⟨?_, ?_⟩, ⟨?_, ?_⟩, ⟨?_, ?_⟩⟩ <;> first | (refine kc hb ?_ <;> (go_simp; first | done | rfl)) | (refine kfz hb ?_ ?_ <;> first | (go_size; done) | (go_simp; done))
  have hz := hb.size
  (try simp only [World.size_alloc, World.size_setCell, World.size_drew] at hz)
  have L : w.heap.size < u1.heap.size ∧ w.heap.size + 1 < u1.heap.size := by omega
  have hB' : Below w.heap.size w u1 := by
      refine kb ?_ hb
      go_grown
  clear hb hz
  obtain ⟨⟨hp_0, fp_0⟩, ⟨hp_1, fp_1⟩, ⟨hp_2, fp_2⟩, ⟨hp_3, fp_3⟩, ⟨hr_0, fr_0⟩, ⟨hr_1, fr_1⟩, ⟨hr_2, fr_2⟩, ⟨hr_3, fr_3⟩⟩ := T
  obtain ⟨hlp, hlr⟩ := L
  obtain ⟨hnp0, hnp1, hkp1, hnp2, hkp2⟩ := ap0 hlp
  obtain ⟨hnr0, hkr1⟩ := ap1 hlr
  have hB := hB'; clear hB'
  have hsz := hB.size
  obtain ⟨a3, c3, rfl⟩ := hx1.form
  have HX1 := Lib.hid (And.intro hx1 (fun g h => Nat.le_trans (show w.heap.size + 2 ≤ _ by simp) (hy1 g h)))
  clear hx1 hy1
  generalize (sortS ps).length = m1 at *
  have HZ1 := Lib.hid (show w.heap.size + 2 ≤ u1.heap.size by omega)
  go_wp2_with fail
  have hBq : Below w.heap.size w (u1.setCell ⟨w.heap.size, 0, none⟩ (.slice a3 m1 c3)) := hB.setCell (by dsimp only; omega) _
  ((with_reducible refine (HS2.out _ hBq).mono ?_); rintro _ u2 ⟨x2, rfl, hx2, hy2, hb⟩)
  have hs_u2 := Lib.hid hb
  have T : CF u2 w.heap.size 0 (.slice a3 m1 c3) ∧ CF u2 w.heap.size 1 (.slice a2 n2 c2) ∧ CF u2 w.heap.size 2 (.int .i64 pd) ∧ CF u2 w.heap.size 3 (.int .i64 pt) ∧ CF u2 (w.heap.size + 1) 0 (.slice none 0 0) ∧ CF u2 (w.heap.size + 1) 1 (.slice none 0 0) ∧ CF u2 (w.heap.size + 1) 2 (.int .i64 0) ∧ CF u2 (w.heap.size + 1) 3 (.int .i64 0) := by
      refine ⟨⟨?_, ?_⟩, ⟨?_, ?_⟩, ⟨?_, ?_⟩, ⟨?_, ?_⟩, ⟨?_, ?_⟩, ⟨?_, ?_⟩, ⟨?_, ?_⟩, ⟨?_, ?_⟩⟩ <;> first | (refine kc hb ?_ <;> (go_simp; first | done | rfl)) | (refine kfz hb ?_ ?_ <;> first | (go_size; done) | (go_simp; done))
  have hz := hb.size
  (try simp only [World.size_alloc, World.size_setCell, World.size_drew] at hz)
  have L : w.heap.size < u2.heap.size ∧ w.heap.size + 1 < u2.heap.size := by omega
  have hB' : Below w.heap.size w u2 := by
      refine kb ?_ hb
      go_grown
  clear hp_0 fp_0 hp_1 fp_1 hp_2 fp_2 hp_3 fp_3 hr_0 fr_0 hr_1 fr_1 hr_2 fr_2 hr_3 fr_3 hlp hlr hnp0 hnp1 hkp1 hnp2 hkp2 hnr0 hkr1 hB hsz
  clear hb hz
  obtain ⟨⟨hp_0, fp_0⟩, ⟨hp_1, fp_1⟩, ⟨hp_2, fp_2⟩, ⟨hp_3, fp_3⟩, ⟨hr_0, fr_0⟩, ⟨hr_1, fr_1⟩, ⟨hr_2, fr_2⟩, ⟨hr_3, fr_3⟩⟩ := T
  obtain ⟨hlp, hlr⟩ := L
  obtain ⟨hnp0, hnp1, hkp1, hnp2, hkp2⟩ := ap0 hlp
  obtain ⟨hnr0, hkr1⟩ := ap1 hlr
  have hB := hB'; clear hB'
  have hsz := hB.size
  obtain ⟨a4, c4, rfl⟩ := hx2.form
  have HX2 := Lib.hid (And.intro hx2 (fun g h => Nat.le_trans (show w.heap.size + 2 ≤ _ by have := HZ1.out; simp; omega) (hy2 g h)))
  have HX3 := Lib.hid (And.intro ((holdsE_set HX1.out.1 HX1.out.2 (p := ⟨w.heap.size, 0, none⟩) (by show w.heap.size < _; omega) (.slice a3 m1 c3)).below hs_u2.out) HX1.out.2)
  clear hx2 hy2 hBq
  generalize (sortS pk).length = m2 at *
  go_wp2
  refine bodyPost_ret (v := .agg #[.slice a3 m1 c3, .slice a4 m2 c4, .int .i64 pd, .int .i64 pt]) (by simp [results, Tryd.results24, go_sem, hp_0, hp_1, hp_2, hp_3, hr_0, hr_1, hr_2, hr_3] <;> first | done | rfl) rfl ⟨_, _, rfl, ?_, ?_, (fun g h => by have := HX1.out.2 g h; omega), (fun g h => by have := HX2.out.2 g h; omega), by go_grown⟩
  · (repeat (refine holdsE_set (B := w.heap.size + 2) ?_ HX3.out.2 (by simp) _))
    exact HX3.out.1
  · (repeat (refine holdsE_set (B := w.heap.size + 2) ?_ HX2.out.2 (by simp) _))
    exact HX2.out.1
end Go.Proofs.YtcilnbkmaoneaaaDoor
