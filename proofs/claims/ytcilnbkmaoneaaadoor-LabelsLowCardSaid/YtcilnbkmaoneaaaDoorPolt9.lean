/-
  The program: the policy of a table.
-/
import Derived.Test.YtcilnbkmaoneaaaDoorAwake9
set_option linter.unusedSimpArgs false
set_option linter.unusedVariables false
namespace Go.Proofs.YtcilnbkmaoneaaaDoor
open Go.RowKit Go.PlainAid

def noneP : Pol := ⟨[], [], 0, 0⟩
def PoltEnd (w : World) (P : Pol) : Ending → World → Prop := fun e w' => ∃ v, e = .returned v ∧ HoldsP w' v P ∧ Below w.heap.size w w'
set_option maxRecDepth 100000 in
theorem poln_c (w : World) : Calls Tryd.prog 21 #[.pointer none] w (PoltEnd w noneP) := by
  go_enter Tryd.func21, Tryd.ntmps21
  go_wp2
  refine bodyPost_ret (v := .agg #[.slice none 0 0, .slice none 0 0, .int .i64 0, .int .i64 0]) (by simp [results, Tryd.results21, go_sem] <;> first | done | rfl) rfl ⟨_, rfl, ⟨_, _, rfl, HoldsE.nil _, HoldsE.nil _⟩, by go_grown⟩
set_option maxRecDepth 100000 in
theorem polt_c {P : Pol} (hl : P.s.length ≤ 1000 ∧ P.k.length ≤ 1000) (tb : Nat) (w : World) (h : Tp tb P w) : Calls Tryd.prog 21 #[.pointer (some ⟨tb, 0, none⟩)] w (PoltEnd w (sortP P)) := by
  obtain ⟨x, y, hT, hx, hy⟩ := h.row
  obtain ⟨h0, h1, h2, h3⟩ := hT.head
  have HS := Lib.hid (fun W (hb : Below w.heap.size w W) => sorted_c (sortP P) (by unfold sortP; dsimp only; rw [sortS_len, sortS_len]; omega) (.agg #[x, y, .int .i64 P.d, .int .i64 P.t]) W ⟨x, y, rfl, hx.below hb, hy.below hb⟩)
  rw [sortP_idem] at HS
  unfold AnsP at HS
  have hlt := hT.lt
  clear hT hx hy h
  have htt_0 := h0
  have htt_1 := h1
  have htt_2 := h2
  have htt_3 := h3
  clear h0 h1 h2 h3
  go_enter Tryd.func21, Tryd.ntmps21
  go_wp2_with fail
  ((with_reducible refine (HS.out _ (by go_grown)).mono ?_); rintro _ u1 ⟨a, b, rfl, ha, hb', ga, gb, hb⟩)
  have hs_u1 := Lib.hid hb
  have T : CF u1 w.heap.size 0 (.slice none 0 0) ∧ CF u1 w.heap.size 1 (.slice none 0 0) ∧ CF u1 w.heap.size 2 (.int .i64 0) ∧ CF u1 w.heap.size 3 (.int .i64 0) := by
      refine ⟨⟨?_, ?_⟩, ⟨?_, ?_⟩, ⟨?_, ?_⟩, ⟨?_, ?_⟩⟩ <;> first | (refine kc hb ?_ <;> (go_simp; first | done | rfl)) | (refine kfz hb ?_ ?_ <;> first | (go_size; done) | (go_simp; done))
  have hz := hb.size
  (try simp only [World.size_alloc, World.size_setCell, World.size_drew] at hz)
  have L : w.heap.size < u1.heap.size := by omega
  have hB' : Below w.heap.size w u1 := by
      refine kb ?_ hb
      go_grown
  clear hb hz
  obtain ⟨⟨hr_0, fr_0⟩, ⟨hr_1, fr_1⟩, ⟨hr_2, fr_2⟩, ⟨hr_3, fr_3⟩⟩ := T
  have hlr := L; clear L
  obtain ⟨hnr0, hnr1, hkr1, hnr2, hkr2⟩ := ap0 hlr
  have hB := hB'; clear hB'
  have hsz := hB.size
  obtain ⟨a1, c1, rfl⟩ := ha.form
  obtain ⟨a2, c2, rfl⟩ := hb'.form
  have HA := Lib.hid (And.intro ha (And.intro hb' (And.intro ga gb)))
  clear ha hb' ga gb
  generalize (sortP P).s.length = m1 at *
  generalize (sortP P).k.length = m2 at *
  go_wp2
  refine bodyPost_ret (v := .agg #[.slice a1 m1 c1, .slice a2 m2 c2, .int .i64 (sortP P).d, .int .i64 (sortP P).t]) (by simp [results, Tryd.results21, go_sem, hr_0, hr_1, hr_2, hr_3] <;> first | done | rfl) rfl ⟨_, rfl, ⟨.slice a1 m1 c1, .slice a2 m2 c2, rfl, ?_, ?_⟩, by go_grown⟩
  · (repeat (refine holdsE_set (B := w.heap.size + 1) ?_ (fun g hg => by have := HA.out.2.2.1 g hg; simp only [World.size_alloc] at this; omega) (by simp) _))
    exact HA.out.1
  · (repeat (refine holdsE_set (B := w.heap.size + 1) ?_ (fun g hg => by have := HA.out.2.2.2 g hg; simp only [World.size_alloc] at this; omega) (by simp) _))
    exact HA.out.2.1
end Go.Proofs.YtcilnbkmaoneaaaDoor
