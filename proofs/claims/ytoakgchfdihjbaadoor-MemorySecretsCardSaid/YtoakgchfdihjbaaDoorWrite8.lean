/-
  Layer 8's document: one more put; Write.
-/
import Derived.Test.YtoakgchfdihjbaaDoorRead8
set_option linter.unusedSimpArgs false
set_option linter.unusedVariables false
namespace Go.Proofs.YtoakgchfdihjbaaDoor
open Go.RowKit Go.PlainAid

theorem Tryd.infoP : (Tryd.prog.info? 41).map (fun i => (i.zero, i.size, i.bytes)) = some (some (.agg #[.int .i64 0, .int .u8 0, .int .u8 0]), 3, 16) := by kernel_rfl
theorem pt_cells_at {W : World} (T : TypeId) (x : Pt) : ∀ j u, ([x].flatMap Pt.cells)[j]? = some u → (W.alloc (.cells #[.int .i64 x.a, .int .u8 x.v, .int .u8 x.t] T)).cell? ((⟨W.heap.size, 0, none⟩ : Addr).add j) = some u := by
  intro j u h
  rw [Addr.add_lit, Nat.zero_add]
  have hh := heap_alloc_new W (.cells #[.int .i64 x.a, .int .u8 x.v, .int .u8 x.t] T)
  simp only [World.cell?, hh]
  rw [← h]
  simp [Pt.cells]
/-- What has stayed but for the memory's block and its row. -/
structure Kp (rb S0 : Nat) (w w' : World) : Prop where
  below : Below rb w w'
  keep : ∀ b, b < S0 → b ≠ rb → w'.heap[b]? = w.heap[b]?
theorem Kp.of_below {rb S0 : Nat} {w u : World} (h : Below w.heap.size w u) (h1 : rb < S0) (h2 : S0 ≤ w.heap.size) : Kp rb S0 w u := ⟨h.mono (by omega), fun b hb _ => h.block b (by omega)⟩
theorem Kp.trans {rb S0 : Nat} {a b c : World} (h : Kp rb S0 a b) (g : Kp rb S0 b c) : Kp rb S0 a c := ⟨h.below.trans g.below, fun k h1 h2 => (g.keep k h1 h2).trans (h.keep k h1 h2)⟩
theorem Kp.cell {rb S0 : Nat} {w u : World} (h : Kp rb S0 w u) {b o : Nat} {v : Value} (hb : b < S0) (hne : b ≠ rb) (hc : w.cell? ⟨b, o, none⟩ = some v) : u.cell? ⟨b, o, none⟩ = some v := (World.cell?_of_block (h.keep b hb hne)).trans hc
theorem Kp.frozen {rb S0 : Nat} {w u : World} (h : Kp rb S0 w u) {b o : Nat} {x : Bool} (hb : b < S0) (hne : b ≠ rb) (hc : w.frozen? ⟨b, o, none⟩ = x) : u.frozen? ⟨b, o, none⟩ = x := (World.frozen?_of_block (h.keep b hb hne)).trans hc
/-- Behind one more put: the row that grew, and the cell that was stored. -/
theorem Rm.app {mb S0 : Nat} {w u w' : World} {L : List Pt} {v v' : Value} (h : Rm mb S0 w L v) (hB : Below w.heap.size w u) (x : Pt) (hg : u.grownBy w' v.ownBlock)
    (hown : w'.ownsRow S0 41 3 v' (L.length + 1) (L.flatMap Pt.cells ++ ([x] : List Pt).flatMap Pt.cells)) :
    Rm mb S0 (w'.setCell ⟨mb, 0, none⟩ v') (L ++ [x]) v' ∧ Kp mb S0 w (w'.setCell ⟨mb, 0, none⟩ v') := by
  have hz := hB.size
  have hsz := h.sz
  have hlt := h.lt
  have hkeep : ∀ b, b < S0 → w'.heap[b]? = w.heap[b]? := fun b hb => (hg.block b (by omega) (fun e => by have := (h.ow.lt b e.symm).1; omega)).trans (hB.block b (by omega))
  have hcell : ∀ o, w'.cell? ⟨mb, o, none⟩ = w.cell? ⟨mb, o, none⟩ := fun o => World.cell?_of_block (hkeep mb hlt)
  refine ⟨⟨World.cell?_setCell_same _ _ v' ((hcell 0).trans h.c0), ?_, ?_, hlt, ?_⟩, ?_⟩
  · rw [List.length_append, List.flatMap_append]; exact own_other hown hlt
  · rw [World.frozen?_setCell]; exact (World.frozen?_of_block (hkeep mb hlt)).trans h.fr
  · rw [World.size_setCell]; have := hg.size; omega
  · have : Below mb w w' := ⟨hg.os.trans hB.os, hg.tape.trans hB.tape, hg.output.trans hB.output, Nat.le_trans hB.size hg.size, fun b hb => hkeep b (by omega)⟩
    exact ⟨this.setCell (Nat.le_refl _) _, fun b hb hne => (Below.heap_setCell w' _ v' b (by exact hne)).trans (hkeep b hb)⟩
/-- What a call that puts answers, and what stands behind it. -/
def PutEnd (mb S0 : Nat) (w : World) (E : Int) (L : List Pt) : Ending → World → Prop := fun e w' => e = .returned (.int .i64 E) ∧ Kp mb S0 w w' ∧ ∃ v, Rm mb S0 w' L v
def writeP (L : List Pt) (x : Pt) : Int × List Pt := if x.a < 0 ∨ 65535 < x.a then (10, L) else if devB x.a = true then (15, L) else if ramB x.a = true then (0, L ++ [x]) else (0, L)
theorem putEnd_same {mb S0 : Nat} {w w' : World} {e : Int} {L : List Pt} {v : Value} {R : Int × List Pt} (h : R = (e, L)) (hR : Rm mb S0 w L v) (hb : Below w.heap.size w w') : PutEnd mb S0 w R.1 R.2 (.returned (.int .i64 e)) w' := by
  subst h
  exact ⟨rfl, Kp.of_below hb hR.lt hR.sz, v, hR.on hb⟩
set_option maxRecDepth 100000 in
set_option maxHeartbeats 2000000 in
theorem writer_c (L : List Pt) (hl : L.length ≤ 100000) (a bv bt : Int) (mb S0 : Nat) (v : Value) (w : World) (hR : Rm mb S0 w L v) :
    Calls Tryd.prog 28 #[.pointer (some ⟨mb, 0, none⟩), .int .i64 a, .agg #[.int .u8 bv, .int .u8 bt]] w (PutEnd mb S0 w (writeP L ⟨a, bv, bt⟩).1 (writeP L ⟨a, bv, bt⟩).2) := by
  have H1 := Lib.hid (fun W => devr_c a W)
  have H2 := Lib.hid (fun W => ramr_c a W)
  obtain ⟨R, hRR⟩ : ∃ R, writeP L ⟨a, bv, bt⟩ = R := ⟨_, rfl⟩
  rw [hRR]
  have HR := Lib.hid hRR
  clear hRR
  unfold writeP at HR
  dsimp only at HR
  generalize devB a = D at *
  generalize ramB a = B at *
  have HM := Lib.hid hR
  have hlt := hR.lt
  have hsz0 := hR.sz
  have hm_0 := hR.c0
  have fm_0 := hR.fr
  obtain ⟨p, c, rfl⟩ := own_form hR.ow
  obtain ⟨n, hn⟩ : ∃ n, L.length = n := ⟨_, rfl⟩
  rw [hn] at hm_0 HM hl
  have HN := Lib.hid hn
  have hmw : mb < w.heap.size := klt hm_0
  have hmn : ¬ mb = w.heap.size := by omega
  obtain ⟨i0, hi, hz0, hz1, hz2⟩ := info_parts Tryd.infoP
  clear hR hn
  by_cases h1 : a < 0
  · have HF := Lib.hid (show R = (10, L) from by rw [← HR.out, if_pos (.inl h1)])
    go_enter Tryd.func28, Tryd.ntmps28
    go_wp2
    go_ret
    exact putEnd_same HF.out HM.out (by go_grown)
  · by_cases h2 : 65535 < a
    · have HF := Lib.hid (show R = (10, L) from by rw [← HR.out, if_pos (.inr h2)])
      go_enter Tryd.func28, Tryd.ntmps28
      go_wp2
      go_ret
      exact putEnd_same HF.out HM.out (by go_grown)
    · have HF := Lib.hid (show R = if D = true then (15, L) else if B = true then (0, L ++ [⟨a, bv, bt⟩]) else (0, L) from by rw [← HR.out, if_neg (by omega)])
      clear HR
      go_enter Tryd.func28, Tryd.ntmps28
      go_wp2_with fail
      ((with_reducible refine (H1.out _).mono ?_); rintro _ u1 ⟨rfl, hb⟩)
      have T : CC u1 w.heap.size 0 1 (.int .u8 bv) (.int .u8 bt) ∧ CF u1 mb 0 (.slice p n c) := by
          refine ⟨⟨?_, ?_⟩, ⟨?_, ?_⟩⟩ <;> first | (refine kc hb ?_ <;> (go_simp; first | done | rfl)) | (refine kfz hb ?_ ?_ <;> first | (go_size; done) | (go_simp; done))
      have hz := hb.size
      (try simp only [World.size_alloc, World.size_setCell, World.size_drew] at hz)
      have L : w.heap.size < u1.heap.size ∧ mb < u1.heap.size := by omega
      have hB' : Below w.heap.size w u1 := by
          refine kb ?_ hb
          go_grown
      clear hb hz
      obtain ⟨⟨hb_0, hb_1⟩, ⟨hm_0, fm_0⟩⟩ := T
      obtain ⟨hlb, hlm⟩ := L
      obtain ⟨hnb0, hnb1, hkb1, hnb2, hkb2⟩ := ap0 hlb
      obtain ⟨hnm0, hnm1, hkm1, hnm2, hkm2⟩ := ap0 hlm
      have hB := hB'; clear hB'
      have hsz := hB.size
      cases D
      · go_wp2_with fail
        ((with_reducible refine (H2.out _).mono ?_); rintro _ u2 ⟨rfl, hb⟩)
        have T : CC u2 w.heap.size 0 1 (.int .u8 bv) (.int .u8 bt) ∧ CF u2 mb 0 (.slice p n c) := by
            refine ⟨⟨?_, ?_⟩, ⟨?_, ?_⟩⟩ <;> first | (refine kc hb ?_ <;> (go_simp; first | done | rfl)) | (refine kfz hb ?_ ?_ <;> first | (go_size; done) | (go_simp; done))
        have hz := hb.size
        (try simp only [World.size_alloc, World.size_setCell, World.size_drew] at hz)
        have L : w.heap.size < u2.heap.size ∧ mb < u2.heap.size := by omega
        have hB' : Below w.heap.size w u2 := by
            refine kb ?_ hb
            go_grown
        clear hb_0 hb_1 hm_0 fm_0 hlb hlm hnb0 hnb1 hkb1 hnb2 hkb2 hnm0 hnm1 hkm1 hnm2 hkm2 hB hsz
        clear hb hz
        obtain ⟨⟨hb_0, hb_1⟩, ⟨hm_0, fm_0⟩⟩ := T
        obtain ⟨hlb, hlm⟩ := L
        obtain ⟨hnb0, hnb1, hkb1, hnb2, hkb2⟩ := ap0 hlb
        obtain ⟨hnm0, hnm1, hkm1, hnm2, hkm2⟩ := ap0 hlm
        have hB := hB'; clear hB'
        have hsz := hB.size
        cases B
        · go_wp2
          go_ret
          exact putEnd_same HF.out HM.out hB
        · go_wp2_with fail
          have HB := Lib.hid hB
          have HO := Lib.hid (show w.ownsRow S0 41 3 (.slice p n c) n _ from by have := HM.out.ow; rw [HN.out] at this; exact this)
          have HZ := Lib.hid (And.intro hsz0 hsz)
          go_region_law (refine step_append_own rfl (.tmp 21) (.tmp 25) 28 rfl S0 41 i0 _ 3 16 Tryd.underlying28 hi hz0 hz1 hz2 rfl (by decide) _ n _ (by simp [Act.eval, Act.put]) (own_below HO.out (by have := HB.out; go_grown)) ⟨u2.heap.size, 0, none⟩ 1 1 ([(⟨a, bv, bt⟩ : Pt)].flatMap Pt.cells) (by simp [Act.eval, Act.put]) rfl (pt_cells_at 41 ⟨a, bv, bt⟩) (one_cells pt_one _) (by unfold maxLen; omega) (by omega) (by have := HZ.out; simp; omega) ?_; intro v' w' hown' hg _ hat; obtain ⟨p', cp', rfl⟩ := own_form hown'; have tc : w'.cell? ⟨mb, 0, none⟩ = some (.slice p n c) := grown_cell (own_below HO.out (by have := HB.out; go_grown)) hg hlt (by go_simp); have tf : w'.frozen? ⟨mb, 0, none⟩ = false := grown_frozen (own_below HO.out (by have := HB.out; go_grown)) hg hlt (by simp; omega) (by go_simp); have HG := Lib.hid (And.intro hown' (And.intro hg hat)); clear hown' hg hat)
          all_goals
            have HP := Lib.hid (Rm.app HM.out (by have := HB.out; go_grown) ⟨a, bv, bt⟩ HG.out.2.1 (by rw [HN.out]; exact HG.out.1))
            go_wp2
            go_ret
            have hf : R = (0, L ++ [⟨a, bv, bt⟩]) := by have := HF.out; simpa using this
            subst hf
            exact ⟨rfl, HP.out.2, _, HP.out.1⟩
      · go_wp2
        go_ret
        exact putEnd_same HF.out HM.out hB
end Go.Proofs.YtoakgchfdihjbaaDoor
