/-
  Layer 8's document: one more put; Write.
  The document's bus: Write of its memory; a wheel's byte; which secret would be written where all may read.
  The program's ports: what they are, where they lie; things in memory that lie apart from each other.
-/
import Derived.Test.YtcnejgilmciljaaGreatDoorRead8
import Derived.Test.YtcnejgilmciljaaGreatDoorTm10
import Derived.Test.YtcnejgilmciljaaGreatDoorKind8
set_option linter.unusedSimpArgs false
set_option linter.unusedVariables false
namespace Go.Proofs.YtcnejgilmciljaaGreatDoor
open Go.RowKit Go.PlainAid

theorem Tryz.infoPut : (Tryz.prog.info? 103).map (fun i => (i.zero, i.size, i.bytes)) = some (some (.agg #[.int .i64 0, .int .u8 0, .int .u8 0]), 3, 16) := by kernel_rfl
theorem pt_cells_at {W : World} (T : TypeId) (x : Pt) : ∀ j u, ([x].flatMap Pt.cells)[j]? = some u → (W.alloc (.cells #[.int .i64 x.a, .int .u8 x.v, .int .u8 x.t] T)).cell? ((⟨W.heap.size, 0, none⟩ : Addr).add j) = some u := by
  intro j u h
  rw [Addr.add_lit, Nat.zero_add]
  have hh := heap_alloc_new W (.cells #[.int .i64 x.a, .int .u8 x.v, .int .u8 x.t] T)
  simp only [World.cell?, hh]
  rw [← h]
  simp [Pt.cells]
/-- What has stayed but for the memory's block and its row. -/
structure Kp (rb S0 : Nat) (w w' : World) : Prop where
  below : Below rb w w'
  keep : ∀ b, b < S0 → b ≠ rb → w'.heap[b]? = w.heap[b]?
  rest : ∀ o, o ≠ 0 → w'.cell? ⟨rb, o, none⟩ = w.cell? ⟨rb, o, none⟩ ∧ w'.frozen? ⟨rb, o, none⟩ = w.frozen? ⟨rb, o, none⟩
theorem Kp.of_below {rb S0 : Nat} {w u : World} (h : Below w.heap.size w u) (h1 : rb < S0) (h2 : S0 ≤ w.heap.size) : Kp rb S0 w u := ⟨h.mono (by omega), fun b hb _ => h.block b (by omega), fun o _ => ⟨(bcell h).1 _ _ (by omega), (bcell h).2 _ _ (by omega)⟩⟩
theorem Kp.trans {rb S0 : Nat} {a b c : World} (h : Kp rb S0 a b) (g : Kp rb S0 b c) : Kp rb S0 a c := ⟨h.below.trans g.below, fun k h1 h2 => (g.keep k h1 h2).trans (h.keep k h1 h2), fun o ho => ⟨(g.rest o ho).1.trans (h.rest o ho).1, (g.rest o ho).2.trans (h.rest o ho).2⟩⟩
theorem Kp.cell {rb S0 : Nat} {w u : World} (h : Kp rb S0 w u) {b o : Nat} {v : Value} (hb : b < S0) (hne : b ≠ rb) (hc : w.cell? ⟨b, o, none⟩ = some v) : u.cell? ⟨b, o, none⟩ = some v := (World.cell?_of_block (h.keep b hb hne)).trans hc
theorem Kp.frozen {rb S0 : Nat} {w u : World} (h : Kp rb S0 w u) {b o : Nat} {x : Bool} (hb : b < S0) (hne : b ≠ rb) (hc : w.frozen? ⟨b, o, none⟩ = x) : u.frozen? ⟨b, o, none⟩ = x := (World.frozen?_of_block (h.keep b hb hne)).trans hc
/-- Behind one more put: the row that grew, and the cell that was stored. -/
theorem Rm.app {mb S0 : Nat} {w u w' : World} {L : List Pt} {v v' : Value} (h : Rm mb S0 w L v) (hB : Below w.heap.size w u) (x : Pt) (hg : u.grownBy w' v.ownBlock)
    (hown : w'.ownsRow S0 103 3 v' (L.length + 1) (L.flatMap Pt.cells ++ ([x] : List Pt).flatMap Pt.cells)) :
    Rm mb S0 (w'.setCell ⟨mb, 0, none⟩ v') (L ++ [x]) v' ∧ Kp mb S0 w (w'.setCell ⟨mb, 0, none⟩ v') := by
  have hz := hB.size
  have hsz := h.sz
  have hlt := h.lt
  have hkeep : ∀ b, b < S0 → w'.heap[b]? = w.heap[b]? := fun b hb => (hg.block b (by omega) (fun e => by have := (h.ow.lt b e.symm).1; omega)).trans (hB.block b (by omega))
  have hcell : ∀ o, w'.cell? ⟨mb, o, none⟩ = w.cell? ⟨mb, o, none⟩ := fun o => World.cell?_of_block (hkeep mb hlt)
  refine ⟨⟨World.cell?_setCell_same _ _ v' ((hcell 0).trans h.c0), ?_, ?_, hlt, ?_⟩, ?_⟩
  · rw [List.length_append, List.flatMap_append]; exact own_other8 hown hlt
  · rw [World.frozen?_setCell]; exact (World.frozen?_of_block (hkeep mb hlt)).trans h.fr
  · rw [World.size_setCell]; have := hg.size; omega
  · have : Below mb w w' := ⟨hg.os.trans hB.os, hg.tape.trans hB.tape, hg.output.trans hB.output, Nat.le_trans hB.size hg.size, fun b hb => hkeep b (by omega)⟩
    exact ⟨this.setCell (Nat.le_refl _) _, fun b hb hne => (Below.heap_setCell w' _ v' b (by exact hne)).trans (hkeep b hb), fun o ho => ⟨(World.cell?_setCell_other _ _ _ _ (fun e => ho (congrArg Addr.off e).symm)).trans (hcell o), (World.frozen?_setCell _ _ _ _).trans (World.frozen?_of_block (hkeep mb hlt))⟩⟩
/-- What a call that puts answers, and what stands behind it. -/
def PutEnd (mb S0 : Nat) (w : World) (E : Int) (L : List Pt) : Ending → World → Prop := fun e w' => e = .returned (.int .i64 E) ∧ Kp mb S0 w w' ∧ ∃ v, Rm mb S0 w' L v
def writeP (L : List Pt) (x : Pt) : Int × List Pt := if x.a < 0 ∨ 65535 < x.a then (10, L) else if devB x.a = true then (15, L) else if ramB x.a = true then (0, L ++ [x]) else (0, L)
theorem putEnd_same {mb S0 : Nat} {w w' : World} {e : Int} {L : List Pt} {v : Value} {R : Int × List Pt} (h : R = (e, L)) (hR : Rm mb S0 w L v) (hb : Below w.heap.size w w') : PutEnd mb S0 w R.1 R.2 (.returned (.int .i64 e)) w' := by
  subst h
  exact ⟨rfl, Kp.of_below hb hR.lt hR.sz, v, hR.on hb⟩
set_option maxRecDepth 100000 in
set_option maxHeartbeats 2000000 in
theorem writer_c (L : List Pt) (hl : L.length ≤ 100000) (a bv bt : Int) (mb S0 : Nat) (v : Value) (w : World) (hR : Rm mb S0 w L v) :
    Calls Tryz.prog 46 #[.pointer (some ⟨mb, 0, none⟩), .int .i64 a, .agg #[.int .u8 bv, .int .u8 bt]] w (PutEnd mb S0 w (writeP L ⟨a, bv, bt⟩).1 (writeP L ⟨a, bv, bt⟩).2) := by
  have H1 := Lib.hid (fun W => devr_c a W)
  have H2 := Lib.hid (fun W => ramr_c a W)
  obtain ⟨R, hRR⟩ : ∃ R, writeP L ⟨a, bv, bt⟩ = R := ⟨_, rfl⟩
  rw [hRR]
  have HR := Lib.hid hRR
  clear hRR
  unfold writeP at HR
  dsimp only at HR
  generalize devB a = D at *
  generalize ramB a = B at *
  have HM := Lib.hid hR
  have hlt := hR.lt
  have hsz0 := hR.sz
  have hm_0 := hR.c0
  have fm_0 := hR.fr
  obtain ⟨p, c, rfl⟩ := own_form hR.ow
  obtain ⟨n, hn⟩ : ∃ n, L.length = n := ⟨_, rfl⟩
  rw [hn] at hm_0 HM hl
  have HN := Lib.hid hn
  have hmw : mb < w.heap.size := klt hm_0
  have hmn : ¬ mb = w.heap.size := by omega
  obtain ⟨i0, hi, hz0, hz1, hz2⟩ := info_parts Tryz.infoPut
  clear hR hn
  by_cases h1 : a < 0
  · have HF := Lib.hid (show R = (10, L) from by rw [← HR.out, if_pos (.inl h1)])
    go_enter Tryz.func46, Tryz.ntmps46
    go_wp2
    go_ret
    exact putEnd_same HF.out HM.out (by go_grown)
  · by_cases h2 : 65535 < a
    · have HF := Lib.hid (show R = (10, L) from by rw [← HR.out, if_pos (.inr h2)])
      go_enter Tryz.func46, Tryz.ntmps46
      go_wp2
      go_ret
      exact putEnd_same HF.out HM.out (by go_grown)
    · have HF := Lib.hid (show R = if D = true then (15, L) else if B = true then (0, L ++ [⟨a, bv, bt⟩]) else (0, L) from by rw [← HR.out, if_neg (by omega)])
      clear HR
      go_enter Tryz.func46, Tryz.ntmps46
      go_wp2_with fail
      ((with_reducible refine (H1.out _).mono ?_); rintro _ u1 ⟨rfl, hb⟩)
      have T : CC u1 w.heap.size 0 1 (.int .u8 bv) (.int .u8 bt) ∧ CF u1 mb 0 (.slice p n c) := by
          refine ⟨⟨?_, ?_⟩, ⟨?_, ?_⟩⟩ <;> first | (refine kc hb ?_ <;> (go_simp; first | done | rfl)) | (refine kfz hb ?_ ?_ <;> first | (go_size; done) | (go_simp; done))
      have hz := hb.size
      (try simp only [World.size_alloc, World.size_setCell, World.size_drew] at hz)
      have L : w.heap.size < u1.heap.size ∧ mb < u1.heap.size := by omega
      have hB' : Below w.heap.size w u1 := by
          refine kb ?_ hb
          go_grown
      clear hb hz
      obtain ⟨⟨hb_0, hb_1⟩, ⟨hm_0, fm_0⟩⟩ := T
      obtain ⟨hlb, hlm⟩ := L
      obtain ⟨hnb0, hnb1, hkb1, hnb2, hkb2⟩ := ap0 hlb
      obtain ⟨hnm0, hnm1, hkm1, hnm2, hkm2⟩ := ap0 hlm
      have hB := hB'; clear hB'
      have hsz := hB.size
      cases D
      · go_wp2_with fail
        ((with_reducible refine (H2.out _).mono ?_); rintro _ u2 ⟨rfl, hb⟩)
        have T : CC u2 w.heap.size 0 1 (.int .u8 bv) (.int .u8 bt) ∧ CF u2 mb 0 (.slice p n c) := by
            refine ⟨⟨?_, ?_⟩, ⟨?_, ?_⟩⟩ <;> first | (refine kc hb ?_ <;> (go_simp; first | done | rfl)) | (refine kfz hb ?_ ?_ <;> first | (go_size; done) | (go_simp; done))
        have hz := hb.size
        (try simp only [World.size_alloc, World.size_setCell, World.size_drew] at hz)
        have L : w.heap.size < u2.heap.size ∧ mb < u2.heap.size := by omega
        have hB' : Below w.heap.size w u2 := by
            refine kb ?_ hb
            go_grown
        clear hb_0 hb_1 hm_0 fm_0 hlb hlm hnb0 hnb1 hkb1 hnb2 hkb2 hnm0 hnm1 hkm1 hnm2 hkm2 hB hsz
        clear hb hz
        obtain ⟨⟨hb_0, hb_1⟩, ⟨hm_0, fm_0⟩⟩ := T
        obtain ⟨hlb, hlm⟩ := L
        obtain ⟨hnb0, hnb1, hkb1, hnb2, hkb2⟩ := ap0 hlb
        obtain ⟨hnm0, hnm1, hkm1, hnm2, hkm2⟩ := ap0 hlm
        have hB := hB'; clear hB'
        have hsz := hB.size
        cases B
        · go_wp2
          go_ret
          exact putEnd_same HF.out HM.out hB
        · go_wp2_with fail
          have HB := Lib.hid hB
          have HO := Lib.hid (show w.ownsRow S0 103 3 (.slice p n c) n _ from by have := HM.out.ow; rw [HN.out] at this; exact this)
          have HZ := Lib.hid (And.intro hsz0 hsz)
          go_region_law (refine step_append8 rfl (.tmp 21) (.tmp 25) 36 rfl S0 103 i0 _ 3 16 Tryz.underlying36 hi hz0 hz1 hz2 rfl (by decide) _ n _ (by simp [Act.eval, Act.put]) (own_below HO.out (by have := HB.out; go_grown)) ⟨u2.heap.size, 0, none⟩ 1 1 ([(⟨a, bv, bt⟩ : Pt)].flatMap Pt.cells) (by simp [Act.eval, Act.put]) rfl (pt_cells_at 103 ⟨a, bv, bt⟩) (one_cells8 pt_one _) (by unfold maxLen; omega) (by omega) (by have := HZ.out; simp; omega) ?_; intro v' w' hown' hg _ hat; obtain ⟨p', cp', rfl⟩ := own_form hown'; have tc : w'.cell? ⟨mb, 0, none⟩ = some (.slice p n c) := grown_cell8 (own_below HO.out (by have := HB.out; go_grown)) hg hlt (by go_simp); have tf : w'.frozen? ⟨mb, 0, none⟩ = false := grown_frozen8 (own_below HO.out (by have := HB.out; go_grown)) hg hlt (by simp; omega) (by go_simp); have HG := Lib.hid (And.intro hown' (And.intro hg hat)); clear hown' hg hat)
          all_goals
            have HP := Lib.hid (Rm.app HM.out (by have := HB.out; go_grown) ⟨a, bv, bt⟩ HG.out.2.1 (by rw [HN.out]; exact HG.out.1))
            go_wp2
            go_ret
            have hf : R = (0, L ++ [⟨a, bv, bt⟩]) := by have := HF.out; simpa using this
            subst hf
            exact ⟨rfl, HP.out.2, _, HP.out.1⟩
      · go_wp2
        go_ret
        exact putEnd_same HF.out HM.out hB
end Go.Proofs.YtcnejgilmciljaaGreatDoor
set_option linter.unusedSimpArgs false
set_option linter.unusedVariables false
namespace Go.Proofs.YtcnejgilmciljaaGreatDoor
open Go.RowKit Go.PlainAid

def MemEndB (rb : Nat) (L : List Pt) (m : Value) (S : Po) (x y a b c d : Value) (E : Int) (L' : List Pt) (w : World) : Ending → World → Prop := fun e w' =>
  e = .returned (.int .i64 E) ∧ ∃ m', Hq rb (rB L m S a b c d) (rB L' m' S a b c d) w w' ∧ Db rb L' m' S x y a b c d w'
theorem Db.hqm {rb : Nat} {L L' : List Pt} {m m' : Value} {S : Po} {x y a b c d : Value} {w u : World} (h : Db rb L m S x y a b c d w) (hq : Hq rb (rB L m S a b c d) (rB L' m' S a b c d) w u) : Db rb L' m' S x y a b c d u :=
  ⟨hq.hold, h.p.hq hq (rB_off L m S a b c d 7 (by omega)), h.s.hq hq (rB_off L m S a b c d 8 (by omega))⟩
theorem memEndB_same {rb : Nat} {L : List Pt} {m : Value} {S : Po} {x y a b c d : Value} {w w' : World} {e : Int} {R : Int × List Pt} (h : R = (e, L)) (hD : Db rb L m S x y a b c d w) (hb : Below w.heap.size w w') : MemEndB rb L m S x y a b c d R.1 R.2 w (.returned (.int .i64 e)) w' := by
  subst h
  exact ⟨rfl, m, (Hq.refl hD.hold).below hD.hold hb, hD.below hb⟩
theorem hold_put {rb : Nat} {L : List Pt} {m m' : Value} {S : Po} {a b c d : Value} {w U w' : World} {p : Pt} (h : Hold rb (rB L m S a b c d) w) (hb : Below w.heap.size w U) (ho : w'.ownsRow 0 103 3 m' (L.length + 1) (L.flatMap Pt.cells ++ ([p] : List Pt).flatMap Pt.cells)) (hg : Grew U w' m m') :
    Hq rb (rB L m S a b c d) (rB (L ++ [p]) m' S a b c d) w (w'.setCell ⟨rb, 0, none⟩ m') := by
  have := Hq.app h hb (i := 0) rfl ho (Nat.le_succ _) (fun j hj => List.getElem?_append_left (by rw [flat_len8 pt_len]; exact hj)) hg
  simpa [rB] using this
set_option maxRecDepth 100000 in
set_option maxHeartbeats 4000000 in
theorem writem_c (rb : Nat) (L : List Pt) (m : Value) (S : Po) (x y a b c d : Value) (hl : L.length ≤ 100000) (at_ bv bt : Int) (w : World) (h : Db rb L m S x y a b c d w) :
    Calls Tryz.prog 46 #[.pointer (some ⟨rb, 0, none⟩), .int .i64 at_, .agg #[.int .u8 bv, .int .u8 bt]] w (MemEndB rb L m S x y a b c d (writeP L ⟨at_, bv, bt⟩).1 (writeP L ⟨at_, bv, bt⟩).2 w) := by
  have H1 := Lib.hid (fun W => devr_c at_ W)
  have H2 := Lib.hid (fun W => ramr_c at_ W)
  obtain ⟨R, hRR⟩ : ∃ R, writeP L ⟨at_, bv, bt⟩ = R := ⟨_, rfl⟩
  rw [hRR]
  have HR := Lib.hid hRR
  clear hRR
  unfold writeP at HR
  dsimp only at HR
  generalize devB at_ = D at *
  generalize ramB at_ = B at *
  have HM := Lib.hid h
  have hlt := h.hold.lt
  have hm_0 : w.cell? ⟨rb, 0, none⟩ = some m := (h.hold.cell 0 _ rfl).1
  have fm_0 : w.frozen? ⟨rb, 0, none⟩ = false := (h.hold.cell 0 _ rfl).2
  have how : w.ownsRow 0 103 3 m L.length (L.flatMap Pt.cells) := (h.hold.own 0 _ rfl).1
  obtain ⟨p, cc, rfl⟩ := own_form how
  obtain ⟨n, hn⟩ : ∃ n, L.length = n := ⟨_, rfl⟩
  rw [hn] at hm_0 hl how HM ⊢
  have HN := Lib.hid hn
  have HOW := Lib.hid how
  have hmn : ¬ rb = w.heap.size := by omega
  obtain ⟨i0, hi, hz0, hz1, hz2⟩ := info_parts Tryz.infoPut
  clear h hn how
  by_cases h1 : at_ < 0
  · have HF := Lib.hid (show R = (10, L) from by rw [← HR.out, if_pos (.inl h1)])
    go_enter Tryz.func46, Tryz.ntmps46
    go_wp2
    go_ret
    exact memEndB_same HF.out HM.out (by go_grown)
  · by_cases h2 : 65535 < at_
    · have HF := Lib.hid (show R = (10, L) from by rw [← HR.out, if_pos (.inr h2)])
      go_enter Tryz.func46, Tryz.ntmps46
      go_wp2
      go_ret
      exact memEndB_same HF.out HM.out (by go_grown)
    · have HF := Lib.hid (show R = if D = true then (15, L) else if B = true then (0, L ++ [⟨at_, bv, bt⟩]) else (0, L) from by rw [← HR.out, if_neg (by omega)])
      clear HR
      go_enter Tryz.func46, Tryz.ntmps46
      go_wp2_with fail
      ((with_reducible refine (H1.out _).mono ?_); rintro _ u1 ⟨rfl, hb⟩)
      have T : CC u1 w.heap.size 0 1 (.int .u8 bv) (.int .u8 bt) ∧ CF u1 rb 0 (.slice p n cc) := by
          refine ⟨⟨?_, ?_⟩, ⟨?_, ?_⟩⟩ <;> first | (refine kc hb ?_ <;> (go_simp; first | done | rfl)) | (refine kfz hb ?_ ?_ <;> first | (go_size; done) | (go_simp; done))
      have hz := hb.size
      (try simp only [World.size_alloc, World.size_setCell, World.size_drew] at hz)
      have L : w.heap.size < u1.heap.size ∧ rb < u1.heap.size := by omega
      have hB' : Below w.heap.size w u1 := by
          refine kb ?_ hb
          go_grown
      clear hb hz
      obtain ⟨⟨hb_0, hb_1⟩, ⟨hm_0, fm_0⟩⟩ := T
      obtain ⟨hlb, hlm⟩ := L
      obtain ⟨hnb0, hnb1, hkb1, hnb2, hkb2⟩ := ap0 hlb
      obtain ⟨hnm0, hnm1, hkm1, hnm2, hkm2⟩ := ap0 hlm
      have hB := hB'; clear hB'
      have hsz := hB.size
      cases D
      · go_wp2_with fail
        ((with_reducible refine (H2.out _).mono ?_); rintro _ u2 ⟨rfl, hb⟩)
        have T : CC u2 w.heap.size 0 1 (.int .u8 bv) (.int .u8 bt) ∧ CF u2 rb 0 (.slice p n cc) := by
            refine ⟨⟨?_, ?_⟩, ⟨?_, ?_⟩⟩ <;> first | (refine kc hb ?_ <;> (go_simp; first | done | rfl)) | (refine kfz hb ?_ ?_ <;> first | (go_size; done) | (go_simp; done))
        have hz := hb.size
        (try simp only [World.size_alloc, World.size_setCell, World.size_drew] at hz)
        have L : w.heap.size < u2.heap.size ∧ rb < u2.heap.size := by omega
        have hB' : Below w.heap.size w u2 := by
            refine kb ?_ hb
            go_grown
        clear hb_0 hb_1 hm_0 fm_0 hlb hlm hnb0 hnb1 hkb1 hnb2 hkb2 hnm0 hnm1 hkm1 hnm2 hkm2 hB hsz
        clear hb hz
        obtain ⟨⟨hb_0, hb_1⟩, ⟨hm_0, fm_0⟩⟩ := T
        obtain ⟨hlb, hlm⟩ := L
        obtain ⟨hnb0, hnb1, hkb1, hnb2, hkb2⟩ := ap0 hlb
        obtain ⟨hnm0, hnm1, hkm1, hnm2, hkm2⟩ := ap0 hlm
        have hB := hB'; clear hB'
        have hsz := hB.size
        cases B
        · go_wp2
          go_ret
          exact memEndB_same HF.out HM.out hB
        · go_wp2_with fail
          have HB := Lib.hid hB
          have HDo := Lib.hid (HM.out.hold.own 0 _ rfl).2
          go_region_law (refine step_append_f rfl (.tmp 21) (.tmp 25) 36 rfl 103 i0 _ 3 16 Tryz.underlying36 hi hz0 hz1 hz2 rfl (by decide) (.slice p n cc) n (L.flatMap Pt.cells) (by simp [Act.eval, Act.put]) (Below.ownRow (by have := HB.out; go_grown) HOW.out) ⟨u2.heap.size, 0, none⟩ 1 1 ([(⟨at_, bv, bt⟩ : Pt)].flatMap Pt.cells) (by simp [Act.eval, Act.put]) rfl (pt_cells_at 103 ⟨at_, bv, bt⟩) (one_cells8 pt_one _) (by unfold maxLen; omega) (by omega) ?_; intro v' w' hown' hg; obtain ⟨p', cp', rfl⟩ := own_form hown'; have tc : w'.cell? ⟨rb, 0, none⟩ = some (.slice p n cc) := hg.cell (by simpa [rB] using HDo.out) (by go_simp); have tf : w'.frozen? ⟨rb, 0, none⟩ = false := hg.frozen (by simpa [rB] using HDo.out) (by simp; omega) (by go_simp); have HG := Lib.hid (And.intro (hg.base (N := w.heap.size) (w := w) (by have := HB.out; go_grown)) (And.intro hown' hg)); clear hown' hg)
          all_goals
            have HP := Lib.hid (hold_put (p := ⟨at_, bv, bt⟩) HM.out.hold HG.out.1 (by rw [HN.out]; exact HG.out.2.1) HG.out.2.2)
            go_wp2
            go_ret
            have hf : R = (0, L ++ [⟨at_, bv, bt⟩]) := by have := HF.out; simpa using this
            subst hf
            exact ⟨rfl, _, HP.out, HM.out.hqm HP.out⟩
      · go_wp2
        go_ret
        exact memEndB_same HF.out HM.out hB
/-- A wheel's byte by its register. -/
def whB (R : Wh) (reg : Int) : Int := if reg = 1 then R.x % 256 else if reg = 2 then R.y % 256 else R.b
set_option maxRecDepth 100000 in
set_option maxHeartbeats 2000000 in
theorem wheelv_c (rb : Nat) (R : Wh) (hR : R.May) (reg : Int) (w : World) (h : Rk rb R w) :
    Calls Tryz.prog 51 #[.pointer (some ⟨rb, 0, none⟩), .int .i64 reg] w fun e w' => e = .returned (.agg #[.int .u8 (whB R reg), .int .u8 0]) ∧ Below w.heap.size w w' := by
  obtain ⟨c0, c1, c2, c3, -, -, -, -⟩ := h
  have hlt := klt c0
  have hx := hR.x
  have hy := hR.y
  obtain ⟨rx, ry, rq, rbb⟩ := R
  dsimp only at *
  unfold whB
  dsimp only
  clear hR
  by_cases h1 : reg = 1
  · subst h1
    have w1 : IntKind.i64.wrap (rx + 256) = rx + 256 := IntWalk.i64_in _ (by omega)
    have w2 : (rx + 256).tmod 256 = rx % 256 := by rw [Int.tmod_eq_emod_of_nonneg (by omega)]; omega
    have w3 : IntKind.i64.wrap (rx % 256) = rx % 256 := IntWalk.i64_in _ (by omega)
    have w4 : IntKind.u8.wrap (rx % 256) = rx % 256 := IntWalk.u8_in _ (by omega)
    rw [if_pos rfl]
    generalize rx % 256 = X at *
    clear hx hy
    go_enter Tryz.func51, Tryz.ntmps51
    go_wp2
    refine bodyPost_ret (v := .agg #[.int .u8 X, .int .u8 0]) (by simp [results, Tryz.results51, go_sem] <;> first | done | rfl | exact dec_eq Iff.rfl) rfl ⟨rfl, by go_grown⟩
  · by_cases h2 : reg = 2
    · subst h2
      have w1 : IntKind.i64.wrap (ry + 256) = ry + 256 := IntWalk.i64_in _ (by omega)
      have w2 : (ry + 256).tmod 256 = ry % 256 := by rw [Int.tmod_eq_emod_of_nonneg (by omega)]; omega
      have w3 : IntKind.i64.wrap (ry % 256) = ry % 256 := IntWalk.i64_in _ (by omega)
      have w4 : IntKind.u8.wrap (ry % 256) = ry % 256 := IntWalk.u8_in _ (by omega)
      rw [if_neg (by omega), if_pos rfl]
      generalize ry % 256 = X at *
      clear hx hy h1
      go_enter Tryz.func51, Tryz.ntmps51
      go_wp2
      refine bodyPost_ret (v := .agg #[.int .u8 X, .int .u8 0]) (by simp [results, Tryz.results51, go_sem] <;> first | done | rfl | exact dec_eq Iff.rfl) rfl ⟨rfl, by go_grown⟩
    · have d1 : (reg == 1) = false := by simpa using h1
      have d2 : (reg == 2) = false := by simpa using h2
      rw [if_neg h1, if_neg h2]
      clear hx hy h1 h2
      go_enter Tryz.func51, Tryz.ntmps51
      go_wp2
      refine bodyPost_ret (v := .agg #[.int .u8 rbb, .int .u8 0]) (by simp [results, Tryz.results51, go_sem] <;> first | done | rfl | exact dec_eq Iff.rfl) rfl ⟨rfl, by go_grown⟩
/-- Whether a secret would be written where all may read, but for ports. -/
def sinkB (a t : Int) : Bool := devB a && (decide (a < 32772) || decide (32777 ≤ a)) && decide (0 < t)
set_option maxRecDepth 100000 in
set_option maxHeartbeats 2000000 in
theorem sink_c (a v t : Int) (w : World) : Calls Tryz.prog 42 #[.int .i64 a, .agg #[.int .u8 v, .int .u8 t]] w fun e w' => e = .returned (.bool (sinkB a t)) ∧ Below w.heap.size w w' := by
  have H1 := Lib.hid (fun W => devr_c a W)
  unfold sinkB
  obtain ⟨A, hA⟩ : ∃ A, decide (a < 32772) = A := ⟨_, rfl⟩
  obtain ⟨B, hB'⟩ : ∃ B, decide (32777 ≤ a) = B := ⟨_, rfl⟩
  obtain ⟨C, hC⟩ : ∃ C, decide (0 < t) = C := ⟨_, rfl⟩
  rw [hA, hB', hC]
  generalize devB a = D at *
  have hcase : D = false ∨ D = true ∧ A = true ∨ D = true ∧ A = false ∧ B = true ∨ D = true ∧ A = false ∧ B = false := by
    cases D <;> cases A <;> cases B <;> simp
  rcases hcase with rfl | ⟨rfl, rfl⟩ | ⟨rfl, rfl, rfl⟩ | ⟨rfl, rfl, rfl⟩
  all_goals
    go_enter Tryz.func42, Tryz.ntmps42
    go_wp2_with fail
    ((with_reducible refine (H1.out _).mono ?_); rintro _ u1 ⟨rfl, hb⟩)
    have k1 : u1.cell? ⟨w.heap.size, 1, none⟩ = some (.int .u8 t) := by rw [(bcell hb).1 _ _ (by simp)]; go_simp; first | done | rfl
    have l0 := klt k1
    have HB := Lib.hid (Below.trans (show Below w.heap.size w (w.alloc (Obj.cells #[Value.int .u8 v, Value.int .u8 t] 49)) from by go_grown) (hb.mono (by simp)))
    clear hb
    go_wp2
    go_ret
    exact ⟨by first | rfl | simp, HB.out⟩
end Go.Proofs.YtcnejgilmciljaaGreatDoor
set_option linter.unusedSimpArgs false
set_option linter.unusedVariables false
namespace Go.Proofs.YtcnejgilmciljaaGreatDoor
open Go.RowKit Go.PlainAid

def eE (x : Int × Int) : List Value := [.int .i64 x.1, .int .u8 x.2]
theorem eE_len (x : Int × Int) : (eE x).length = 2 := rfl
theorem eE_one (x : Int × Int) : ∀ u ∈ eE x, u.oneCell' = true := by intro u h; simp [eE] at h; rcases h with rfl | rfl <;> rfl
def secT (l : List Int) : List (Int × Int) := l.map fun v => (v, 255)
theorem secT_len (l : List Int) : (secT l).length = l.length := List.length_map ..
theorem secT_nil {l : List Int} : secT l ≠ [] ↔ l ≠ [] := by cases l <;> simp [secT]
theorem secT_tail (l : List Int) : secT l.tail = (secT l).tail := by cases l <;> rfl
def Po.log (S : Po) : List (Int × Int) := S.cyc.zip S.told
/-- The program's three rows. -/
def rP (S : Po) (a b c : Value) : List Rw :=
  [⟨2, 5, 1, S.out.length, S.out.flatMap bE, a⟩, ⟨3, 49, 2, S.kept.length, S.kept.flatMap kE, b⟩, ⟨4, 109, 2, S.log.length, S.log.flatMap eE, c⟩]
/-- What comes in, at a cell, of any kind. -/
structure Inq {α : Type} (enc : α → List Value) (k pb o : Nat) (F : Nat → Prop) (v : Value) (l : List α) (w : World) : Prop where
  c : w.cell? ⟨pb, o, none⟩ = some v
  f : w.frozen? ⟨pb, o, none⟩ = false
  h : HoldsW enc k w v l
  n : l ≠ [] → ∀ b, v.ownBlock = some b → ¬ F b
/-- How much ports have at most. -/
structure Fit (S : Po) : Prop where
  pub : S.pub.length ≤ 65536
  sec : S.sec.length ≤ 65536
  out : S.out.length ≤ 4096
  kept : S.kept.length ≤ 4096
  told : S.told.length ≤ 4096
  cyc : S.cyc.length = S.told.length
theorem Fit.log {S : Po} (h : Fit S) : S.log.length = S.told.length := by
  unfold Po.log
  rw [List.length_zip, h.cyc, Nat.min_self]
/-- The program's ports at pb. -/
structure Pp (pb : Nat) (S : Po) (x y a b c : Value) (w : World) : Prop where
  hold : Hold pb (rP S a b c) w
  p : Inq bE 1 pb 0 (foot pb (rP S a b c)) x S.pub w
  s : Inq kE 2 pb 1 (foot pb (rP S a b c)) y (secT S.sec) w
section
variable {α : Type} {enc : α → List Value} {k pb o : Nat} {F G : Nat → Prop} {v : Value} {l : List α} {w u : World}
theorem Inq.below (h : Inq enc k pb o F v l w) (hb : Below w.heap.size w u) : Inq enc k pb o F v l u :=
  ⟨kc hb h.c, kfz hb (klt h.c) h.f, h.h.below hb, h.n⟩
theorem Inq.fr (h : Inq enc k pb o F v l w) (hf : Fr G w u) (hr : ¬ G pb) (hg : l ≠ [] → ∀ b, v.ownBlock = some b → ¬ G b) : Inq enc k pb o F v l u :=
  ⟨hf.cell h.c hr, hf.frozen (klt h.c) h.f hr, h.h.fr hf hg, h.n⟩
theorem Inq.ot {o' : Nat} (h : Inq enc k pb o F v l w) (hq : Ot pb o' w u) (hn : o ≠ o') (hF : F pb) : Inq enc k pb o F v l u :=
  ⟨(hq.ot o hn).trans h.c, (hq.fz o).trans h.f, h.h.fr hq.fr (fun hl b hb e => h.n hl b hb (e ▸ hF)), h.n⟩
theorem holds_old (h : HoldsW enc k w v l) (hk : ∀ x, (enc x).length = k) (k0 : 0 < k) : l ≠ [] → ∀ b, v.ownBlock = some b → b < w.heap.size := fun hl b hb => by
  rcases h with ⟨_, e⟩ | ⟨g, o', cap, rfl, _, hc⟩
  · exact absurd e hl
  · obtain rfl : g = b := by simpa [Value.ownBlock] using hb
    cases l with
    | nil => exact absurd rfl hl
    | cons z r =>
      have hz : (enc z)[0]? = some ((enc z)[0]'(by rw [hk]; exact k0)) := List.getElem?_eq_getElem _
      exact klt (hc 0 z rfl 0 _ hz)
theorem Inq.hq {R R' : List Rw} (h : Inq enc k pb o (foot pb R) v l w) (hk : ∀ x, (enc x).length = k) (k0 : 0 < k) (hq : Hq pb R R' w u) (ho : ∀ (i : Nat) (r : Rw), R[i]? = some r → r.off ≠ o) : Inq enc k pb o (foot pb R') v l u := by
  refine ⟨(hq.at_ o ho).1.trans h.c, (hq.at_ o ho).2.trans h.f, h.h.fr hq.fr h.n, fun hl b hb hf => ?_⟩
  rcases hq.ft b hf with h1 | h1
  · exact h.n hl b hb h1
  · have := holds_old h.h hk k0 hl b hb
    omega
/-- The cells of what a slice holds, in a row. -/
theorem holds_flat (hk : ∀ x, (enc x).length = k) (k0 : 0 < k) {g o' : Nat} (hc : ∀ j (x : α), l[j]? = some x → ∀ i u, (enc x)[i]? = some u → w.cell? ⟨g, o' + j * k + i, none⟩ = some u) :
    ∀ j u, (l.flatMap enc)[j]? = some u → w.cell? ((⟨g, o', none⟩ : Addr).add j) = some u := fun j u hu => by
  have hj := (List.getElem?_eq_some_iff.1 hu).1
  rw [flat_len8 hk] at hj
  have h1 : j / k < l.length := (Nat.div_lt_iff_lt_mul k0).2 hj
  have h2 : j % k < (enc l[j / k]).length := by rw [hk]; exact Nat.mod_lt _ k0
  have h3 := flat_at8 hk l (j / k) l[j / k] (j % k) _ (List.getElem?_eq_getElem h1) (List.getElem?_eq_getElem h2)
  rw [Nat.div_add_mod' j k] at h3
  have h4 := hc (j / k) _ (List.getElem?_eq_getElem h1) (j % k) _ (List.getElem?_eq_getElem h2)
  rw [h3] at hu
  obtain rfl := Option.some.inj hu
  rw [Addr.add_lit, show o' + j = o' + j / k * k + j % k from by rw [Nat.add_assoc, Nat.div_add_mod']]
  exact h4
end
section
variable {pb : Nat} {S S' : Po} {x y a b c a' b' c' x' y' : Value} {w u : World}
theorem rP_off (S : Po) (a b c : Value) (o : Nat) (ho : o < 2) : ∀ (i : Nat) (r : Rw), (rP S a b c)[i]? = some r → r.off ≠ o := fun i r hr => by
  match i, hr with
  | 0, hr => cases hr; dsimp only; omega
  | 1, hr => cases hr; dsimp only; omega
  | 2, hr => cases hr; dsimp only; omega
  | n + 3, hr => simp [rP] at hr
theorem Pp.below (h : Pp pb S x y a b c w) (hb : Below w.heap.size w u) : Pp pb S x y a b c u := ⟨h.hold.below hb, h.p.below hb, h.s.below hb⟩
theorem Pp.hq (h : Pp pb S x y a b c w) (hq : Hq pb (rP S a b c) (rP S' a' b' c') w u) (hp : S'.pub = S.pub) (hs : S'.sec = S.sec) : Pp pb S' x y a' b' c' u :=
  ⟨hq.hold, by rw [hp]; exact h.p.hq bE_len (by omega) hq (rP_off S a b c 0 (by omega)), by rw [hs]; exact h.s.hq kE_len (by omega) hq (rP_off S a b c 1 (by omega))⟩
theorem Pp.setP (h : Pp pb S x y a b c w) (hq : Ot pb 0 w u) (l' : List Int) (hc : u.cell? ⟨pb, 0, none⟩ = some x') (hx : HoldsW bE 1 w x' l') (hn : l' ≠ [] → ∀ k, x'.ownBlock = some k → ¬ foot pb (rP S a b c) k) :
    Pp pb ⟨l', S.sec, S.out, S.kept, S.cyc, S.told⟩ x' y a b c u :=
  ⟨hq.hold h.hold (rP_off S a b c 0 (by omega)), ⟨hc, (hq.fz 0).trans h.p.f, hx.fr hq.fr (fun hl k hk e => hn hl k hk (.inl e)), hn⟩, h.s.ot hq (by omega) (.inl rfl)⟩
theorem Pp.setS (h : Pp pb S x y a b c w) (hq : Ot pb 1 w u) (l' : List Int) (hc : u.cell? ⟨pb, 1, none⟩ = some y') (hx : HoldsW kE 2 w y' (secT l')) (hn : l' ≠ [] → ∀ k, y'.ownBlock = some k → ¬ foot pb (rP S a b c) k) :
    Pp pb ⟨S.pub, l', S.out, S.kept, S.cyc, S.told⟩ x y' a b c u :=
  ⟨hq.hold h.hold (rP_off S a b c 1 (by omega)), h.p.ot hq (by omega) (.inl rfl), ⟨hc, (hq.fz 1).trans h.s.f, hx.fr hq.fr (fun hl k hk e => hn (secT_nil.1 hl) k hk (.inl e)), fun hl => hn (secT_nil.1 hl)⟩⟩
theorem Pp.at0 (h : Pp pb S x y a b c w) :
    (w.cell? ⟨pb, 2, none⟩ = some a ∧ w.ownsRow 0 5 1 a S.out.length (S.out.flatMap bE)) ∧ (w.cell? ⟨pb, 3, none⟩ = some b ∧ w.ownsRow 0 49 2 b S.kept.length (S.kept.flatMap kE)) ∧
    w.cell? ⟨pb, 4, none⟩ = some c ∧ w.ownsRow 0 109 2 c S.log.length (S.log.flatMap eE) :=
  ⟨⟨(h.hold.cell 0 _ rfl).1, (h.hold.own 0 _ rfl).1⟩, ⟨(h.hold.cell 1 _ rfl).1, (h.hold.own 1 _ rfl).1⟩, (h.hold.cell 2 _ rfl).1, (h.hold.own 2 _ rfl).1⟩
end
/-- Something that lies in memory: the blocks that it writes, those on which it hangs. -/
abbrev Thing := (Nat → Prop) → (Nat → Prop) → World → Prop
/-- It stays where none of its blocks is written. -/
structure Frm (T : Thing) : Prop where
  fr : ∀ {F G H : Nat → Prop} {w u : World}, T F G w → Fr H w u → (∀ b, G b → ¬ H b) → T F G u
  sub : ∀ {F G : Nat → Prop} {w : World}, T F G w → ∀ b, F b → G b
  lt : ∀ {F G : Nat → Prop} {w : World}, T F G w → ∀ b, G b → b < w.heap.size
/-- The blocks of ports, and of what comes in. -/
def hang (F : Nat → Prop) (p q : Bool) (x y : Value) (b : Nat) : Prop := F b ∨ (p = true ∧ x.ownBlock = some b) ∨ (q = true ∧ y.ownBlock = some b)
def some_ (l : List Int) : Bool := !l.isEmpty
theorem some_iff {l : List Int} : some_ l = true ↔ l ≠ [] := by cases l <;> simp [some_]
def PO (pb : Nat) (S : Po) : Thing := fun F G w => ∃ x y a b c, Pp pb S x y a b c w ∧ F = foot pb (rP S a b c) ∧ G = hang F (some_ S.pub) (some_ S.sec) x y
def DO (rb : Nat) (S : Po) : Thing := fun F G w => ∃ x y a b c d, Dp rb S x y a b c d w ∧ F = foot rb (rD S a b c d) ∧ G = hang F (some_ S.pub) (some_ S.sec) x y
theorem PO.frm (pb : Nat) (S : Po) : Frm (PO pb S) := by
  refine ⟨?_, ?_, ?_⟩
  · rintro F G H w u ⟨x, y, a, b, c, h, rfl, rfl⟩ hf hn
    refine ⟨x, y, a, b, c, ⟨h.hold.fr hf (fun b hb => hn b (.inl hb)), h.p.fr hf (hn _ (.inl (.inl rfl))) (fun hl b hb => hn b (.inr (.inl ⟨some_iff.2 hl, hb⟩))), h.s.fr hf (hn _ (.inl (.inl rfl))) (fun hl b hb => hn b (.inr (.inr ⟨some_iff.2 (secT_nil.1 hl), hb⟩)))⟩, rfl, rfl⟩
  · rintro F G w ⟨x, y, a, b, c, h, rfl, rfl⟩ b hb
    exact .inl hb
  · rintro F G w ⟨x, y, a, b, c, h, rfl, rfl⟩ b (hb | ⟨hl, hb⟩ | ⟨hl, hb⟩)
    · exact h.hold.foot_lt hb
    · exact holds_old h.p.h bE_len (by omega) (some_iff.1 hl) b hb
    · exact holds_old h.s.h kE_len (by omega) (secT_nil.2 (some_iff.1 hl)) b hb
theorem DO.frm (rb : Nat) (S : Po) : Frm (DO rb S) := by
  refine ⟨?_, ?_, ?_⟩
  · rintro F G H w u ⟨x, y, a, b, c, d, h, rfl, rfl⟩ hf hn
    refine ⟨x, y, a, b, c, d, ⟨h.hold.fr hf (fun b hb => hn b (.inl hb)), h.p.fr hf (hn _ (.inl (.inl rfl))) (fun hl b hb => hn b (.inr (.inl ⟨some_iff.2 hl, hb⟩))), h.s.fr hf (hn _ (.inl (.inl rfl))) (fun hl b hb => hn b (.inr (.inr ⟨some_iff.2 hl, hb⟩)))⟩, rfl, rfl⟩
  · rintro F G w ⟨x, y, a, b, c, d, h, rfl, rfl⟩ b hb
    exact .inl hb
  · rintro F G w ⟨x, y, a, b, c, d, h, rfl, rfl⟩ b (hb | ⟨hl, hb⟩ | ⟨hl, hb⟩)
    · exact h.hold.foot_lt hb
    · exact holds_old h.p.h bE_len (by omega) (some_iff.1 hl) b hb
    · exact holds_old h.s.h bE_len (by omega) (some_iff.1 hl) b hb
/-- What a call leaves: it wrote F's blocks alone, and what it has now is of those, or new. -/
structure Mv (F G F' G' : Nat → Prop) (w u : World) : Prop where
  fr : Fr F w u
  f : ∀ b, F' b → F b ∨ w.heap.size ≤ b
  g : ∀ b, G' b → G b ∨ w.heap.size ≤ b
structure Apart (F G F2 G2 : Nat → Prop) : Prop where
  a : ∀ b, F b → ¬ G2 b
  b : ∀ b, F2 b → ¬ G b
section
variable {F G F' G' F2 G2 F3 G3 : Nat → Prop} {w u v : World}
theorem Apart.symm (h : Apart F G F2 G2) : Apart F2 G2 F G := ⟨h.b, h.a⟩
theorem Mv.refl (F G : Nat → Prop) (w : World) : Mv F G F G w w := ⟨Fr.refl _ _, fun _ h => .inl h, fun _ h => .inl h⟩
theorem Mv.ofBelow (F G : Nat → Prop) (h : Below w.heap.size w u) : Mv F G F G w u := ⟨Fr.ofBelow h, fun _ h => .inl h, fun _ h => .inl h⟩
theorem Mv.trans (h : Mv F G F' G' w u) (k : Mv F' G' F2 G2 u v) : Mv F G F2 G2 w v := by
  have hz := h.fr.size
  refine ⟨h.fr.trans k.fr (fun b hb hf => (h.f b hf).elim id (fun h1 => by omega)), fun b hb => ?_, fun b hb => ?_⟩
  · rcases k.f b hb with h1 | h1
    · exact h.f b h1
    · exact .inr (by omega)
  · rcases k.g b hb with h1 | h1
    · exact h.g b h1
    · exact .inr (by omega)
theorem Mv.below (h : Mv F G F' G' w u) (hb : Below u.heap.size u v) : Mv F G F' G' w v := h.trans (Mv.ofBelow _ _ hb)
theorem Mv.apart {T : Thing} (hT : Frm T) (t : T F2 G2 w) (h : Mv F G F' G' w u) (ha : Apart F G F2 G2) : Apart F' G' F2 G2 :=
  ⟨fun b hb hg => (h.f b hb).elim (fun h1 => ha.a b h1 hg) (fun h1 => by have := hT.lt t b hg; omega), fun b hb hg => (h.g b hg).elim (fun h1 => ha.b b hb h1) (fun h1 => by have := hT.lt t b (hT.sub t b hb); omega)⟩
/-- What lies apart stays. -/
theorem Mv.stay {T : Thing} (hT : Frm T) (t : T F2 G2 w) (h : Mv F G F' G' w u) (ha : Apart F G F2 G2) : T F2 G2 u := hT.fr t h.fr (fun b hb hf => ha.a b hf hb)
theorem Frm.below {T : Thing} (hT : Frm T) (t : T F G w) (h : Below w.heap.size w u) : T F G u := hT.fr t (Fr.ofBelow (F := fun _ => False) h) (fun _ _ f => f)
/-- What is new lies apart from what was there. -/
theorem Apart.fresh {T : Thing} (hT : Frm T) (t : T F2 G2 w) (h : ∀ b, G b → w.heap.size ≤ b) (hs : ∀ b, F b → G b) : Apart F G F2 G2 :=
  ⟨fun b hb hg => by have := hT.lt t b hg; have := h b (hs b hb); omega, fun b hb hg => by have := hT.lt t b (hT.sub t b hb); have := h b hg; omega⟩
theorem Mv.low (h : Mv F G F' G' w u) {N : Nat} (hF : ∀ b, F b → N ≤ b) (hN : N ≤ w.heap.size) : ∀ b, F' b → N ≤ b := fun b hb => (h.f b hb).elim (hF b) (fun h1 => by omega)
theorem Mv.lowB {w0 : World} (h : Mv F G F' G' w u) {N : Nat} (h0 : Below N w0 w) (hF : ∀ b, F b → N ≤ b) (hN : N ≤ w0.heap.size) : Below N w0 u := Fr.toBelow h0 h.fr hF hN
end
end Go.Proofs.YtcnejgilmciljaaGreatDoor
