/-
  The program's bus: what is written into memory, and into a device.
-/
import Derived.Test.YtcnejgilmciljaaGreatDoorMemV13
import Derived.Test.YtcnejgilmciljaaGreatDoorLoadp8
import Derived.Test.YtcnejgilmciljaaGreatDoorWritep11
import Derived.Test.YtcnejgilmciljaaGreatDoorRoll12
import Derived.Test.YtcnejgilmciljaaGreatDoorPlanXD
set_option linter.unusedSimpArgs false
set_option linter.unusedVariables false
namespace Go.Proofs.YtcnejgilmciljaaGreatDoor
open Go.RowKit Go.PlainAid

/-- What is told of a byte that goes where all may read. -/
def snk (t : Int) : Int × Int := if t = 0 then (0, 0) else (4, 20)
set_option maxRecDepth 100000 in
theorem snk_c (v t : Int) (w : World) : Calls Tryz.prog 102 #[.agg #[.int .u8 v, .int .u8 t]] w fun e u => e = .returned (wrBV (snk t)) ∧ Below w.heap.size w u := by
  unfold wrBV snk
  by_cases h : t = 0
  · subst h
    rw [if_pos rfl]
    go_enter Tryz.func102, Tryz.ntmps102
    go_wp2
    go_ret2
    exact ⟨rfl, by go_grown⟩
  · rw [if_neg h]
    have h2 : (t != 0) = true := by simpa using h
    clear h
    go_enter Tryz.func102, Tryz.ntmps102
    go_wp2
    go_ret2
    exact ⟨rfl, by go_grown⟩
set_option maxRecDepth 100000 in
set_option maxHeartbeats 4000000 in
theorem storew_c (M : Int → Int × Int) (a v t : Int) (mb mbb : Nat) (w : World) (hP : Pm mb mbb w M) (hL : Laid w) :
    Calls Tryz.prog 92 #[.agg #[.pointer (some ⟨mb, 0, none⟩)], .int .i64 a, .agg #[.int .u8 v, .int .u8 t]] w fun e u => e = .returned (wrBV (0, (writeM M a v t).1)) ∧ w.grownBy u (some mbb) ∧ Pm mb mbb u (writeM M a v t).2 := by
  have HW := Lib.hid (fun W (hW : Below w.heap.size w W) => writep_c M a v t mb mbb W (hP.below hW) (hL.below hW))
  unfold MemEnd at HW
  unfold wrBV
  generalize writeM M a v t = X at *
  obtain ⟨E, M'⟩ := X
  dsimp only at *
  clear hP hL
  go_enter Tryz.func92, Tryz.ntmps92
  go_wp2_with fail
  have hb0 : Below w.heap.size w ((w.alloc (Obj.cells #[.pointer (some ⟨mb, 0, none⟩)] 111)).alloc (Obj.cells #[.int .u8 v, .int .u8 t] 49)) := by go_grown
  refine (HW.out _ hb0).mono ?_
  rintro _ u ⟨rfl, hg, hp⟩
  have HE := Lib.hid (And.intro ((grown_below (g := some mbb) hb0).trans hg) hp)
  clear hg hp HW hb0
  go_wp2
  go_ret2
  exact ⟨rfl, HE.out⟩
theorem tq_below {tb o : Nat} {T : Tm} {w u v : World} (hb : Below w.heap.size w u) (hlt : tb < w.heap.size) (h : Tq tb o u T v) : Tq tb o w T v :=
  ⟨h.t, (grown_below hb).trans h.g, fun j hj => ⟨(h.ot j hj).1.trans (hb.cell (p := ⟨tb, j, none⟩) hlt), (h.ot j hj).2.trans (hb.frozen (p := ⟨tb, j, none⟩) hlt)⟩⟩
section
variable {bb mb mbb pb wb : Nat} {B : Bs} {F G : Nat → Prop} {w : World}
set_option maxRecDepth 100000 in
set_option maxHeartbeats 4000000 in
theorem writenot_c (p : Option Addr) (reg v t : Int) (w : World) :
    Calls Tryz.prog 100 #[.pointer p, .int .i64 reg, .agg #[.int .u8 v, .int .u8 t]] w fun e u => e = .returned (wrBV (snk t)) ∧ Below w.heap.size w u := by
  have HS := Lib.hid (fun W => snk_c v t W)
  unfold wrBV at *
  generalize snk t = X at *
  obtain ⟨xr, xe⟩ := X
  dsimp only at *
  go_enter Tryz.func100, Tryz.ntmps100
  go_wp2_with fail
  ((with_reducible refine (HS.out _).mono ?_); rintro _ u ⟨rfl, hb⟩)
  have hz := hb.size
  (try simp only [World.size_alloc, World.size_setCell, World.size_drew] at hz)
  have hB' : Below w.heap.size w u := by
      refine kb ?_ hb
      go_grown
  clear hb hz
  have hB := hB'; clear hB'
  have hsz := hB.size
  go_wp2
  go_ret2
  exact ⟨rfl, by go_grown⟩
set_option maxRecDepth 100000 in
set_option maxHeartbeats 4000000 in
theorem writewhl_c (h : Pb bb mb mbb pb wb B F G w) (hW : B.W.May) (reg v t : Int) (hv : 0 ≤ v ∧ v ≤ 255) :
    Calls Tryz.prog 98 #[.pointer (some ⟨bb, 0, none⟩), .int .i64 reg, .agg #[.int .u8 v, .int .u8 t]] w (BgEnd bb mb mbb pb wb F G (wrBV (wrE reg t)) ⟨B.M, B.T, B.S, wrS B.W reg v t, B.n⟩ w) := by
  have HR := Lib.hid (fun W (hW' : Below w.heap.size w W) => wwrite_c wb B.W hW reg v t hv W (h.h.below hW'))
  unfold WrEnd at HR
  have c8 := h.c8
  have hlt := klt c8
  have HP := Lib.hid h
  clear h
  unfold wrBV
  generalize wrS B.W reg v t = W' at *
  obtain ⟨⟨xr, xe⟩, hX⟩ : ∃ X, wrE reg t = X := ⟨_, rfl⟩
  rw [hX] at HR ⊢
  dsimp only at HR ⊢
  clear hX
  go_enter Tryz.func98, Tryz.ntmps98
  go_wp2_with fail
  have hB0 : Below w.heap.size w (w.alloc (Obj.cells #[.int .u8 v, .int .u8 t] 49)) := by go_grown
  have HP1 := Lib.hid (HP.out.below hB0)
  obtain ⟨W0, hW0⟩ : ∃ W, W = w.alloc (Obj.cells #[.int .u8 v, .int .u8 t] 49) := ⟨_, rfl⟩
  have y0 : W0.cell? ⟨w.heap.size, 0, none⟩ = some (.int .u8 v) := by rw [hW0]; go_simp; first | done | rfl
  have y1 : W0.cell? ⟨w.heap.size, 1, none⟩ = some (.int .u8 t) := by rw [hW0]; go_simp; first | done | rfl
  have hz0 : w.heap.size < W0.heap.size := by rw [hW0]; simp
  have hz1 : W0.heap.size = w.heap.size + 1 := by rw [hW0]; simp
  rw [← hW0] at hB0 HP1 ⊢
  clear hW0
  have HB0 := Lib.hid hB0
  have c8 := HP1.out.c8
  have hwb := HP.out.h.lt
  have nbw : ¬ w.heap.size = wb := by omega
  have nb8 : ¬ bb = wb := HP.out.s.bw
  clear hB0 hz1
  refine wp_region_planXD 9 11 6 (fun bo W => Bx w.heap.size v t W ∧ W.cell? ⟨bb, 8, none⟩ = some (.pointer (some ⟨wb, 0, none⟩)) ∧ bif bo then (Pw wb W' W ∧ Fr (fun k => k = wb) W0 W) else Below W0.heap.size W0 W) (by decide) (by kernel_rfl) (by kernel_rfl) (by kernel_rfl) (by kernel_rfl) ?_ ?_
  · (try dsimp only)
    refine ⟨⟨y0, y1⟩, c8, ?_⟩
    (try simp only [cond_false]); exact Below.drew (Below.refl _ _)
  (try simp only [List.append_eq, List.cons_append, List.nil_append, List.toList_toArray, List.take_succ_cons, List.take_zero, List.drop_succ_cons, List.drop_zero])
  repeat (first
    | (refine PlanX.val (v := ?_) (by decide) ?_ ?_ ?_; rotate_left; (· rfl); (· (intro bo W hSw; obtain ⟨⟨bx0, bx1⟩, bc8,  -⟩ := hSw; go_simp; all_goals (first | (with_reducible rfl) | (constructor <;> (with_reducible rfl))))); (try simp only [Act.put, List.setIfInBounds_toArray, List.set_cons_zero, List.set_cons_succ]))
    | (refine PlanX.turn (v := .tuple #[.int .i64 xr, .int .i64 xe]) (f := ?_) (args := ?_) (by decide) ?_ ?_ ?_ ?_; rotate_left 2; (· rfl); (· (intro W hSw; obtain ⟨⟨bx0, bx1⟩, bc8,  -⟩ := hSw; go_simp; all_goals (first | (with_reducible rfl) | (constructor <;> (with_reducible rfl))))); (· (intro W hSw; exact (HR.out W (Below.trans HB0.out (hSw.2.2.mono (by omega)))).mono fun e w' ⟨h1, h2, h3⟩ => ⟨h1, hSw.1.fr h3 nbw, h3.cell hSw.2.1 nb8, h2, (Fr.ofBelow hSw.2.2).trans h3 (fun _ _ e => e)⟩)); (try simp only [Act.put, List.setIfInBounds_toArray, List.set_cons_zero, List.set_cons_succ])))
  refine PlanX.done ?_
  intro U T0
  obtain ⟨-, -, hpw, hfr⟩ := T0
  have HE := Lib.hid (((Bg.refl HP.out).below HB0.out).trans (HP1.out.wheel hfr hpw))
  clear hpw hfr
  go_wp2
  go_ret2
  exact ⟨rfl, _, _, HE.out⟩
set_option maxRecDepth 100000 in
set_option maxHeartbeats 4000000 in
theorem writemem_c (h : Pb bb mb mbb pb wb B F G w) (hL : Laid w) (a v t : Int) :
    Calls Tryz.prog 75 #[.pointer (some ⟨bb, 0, none⟩), .int .i64 a, .agg #[.int .u8 v, .int .u8 t]] w (BgEnd bb mb mbb pb wb F G (wrBV (0, (writeM B.M a v t).1)) ⟨(writeM B.M a v t).2, B.T, B.S, B.W, B.n⟩ w) := by
  have HR := Lib.hid (fun W (hW' : Below w.heap.size w W) => storew_c B.M a v t mb mbb W (h.m.below hW') (hL.below hW'))
  have c0 := h.c0
  have hlt := klt c0
  have HP := Lib.hid h
  clear h
  unfold wrBV at *
  generalize writeM B.M a v t = X at *
  obtain ⟨xe, M'⟩ := X
  dsimp only at *
  go_enter Tryz.func75, Tryz.ntmps75
  go_wp2_with fail
  have hB0 : Below w.heap.size w (w.alloc (Obj.cells #[.int .u8 v, .int .u8 t] 49)) := by go_grown
  have HP1 := Lib.hid (HP.out.below hB0)
  obtain ⟨W0, hW0⟩ : ∃ W, W = w.alloc (Obj.cells #[.int .u8 v, .int .u8 t] 49) := ⟨_, rfl⟩
  have y0 : W0.cell? ⟨w.heap.size, 0, none⟩ = some (.int .u8 v) := by rw [hW0]; go_simp; first | done | rfl
  have y1 : W0.cell? ⟨w.heap.size, 1, none⟩ = some (.int .u8 t) := by rw [hW0]; go_simp; first | done | rfl
  have hz0 : w.heap.size < W0.heap.size := by rw [hW0]; simp
  have hz1 : W0.heap.size = w.heap.size + 1 := by rw [hW0]; simp
  rw [← hW0] at hB0 HP1 ⊢
  clear hW0
  have HB0 := Lib.hid hB0
  have c0 := HP1.out.c0
  have hmm := HP.out.m.lt
  have nbw : ¬ w.heap.size = mbb := by omega
  have nb8 : ¬ bb = mbb := HP.out.s.bx
  clear hB0 hz1
  refine wp_region_planXD 9 11 6 (fun bo W => Bx w.heap.size v t W ∧ W.cell? ⟨bb, 0, none⟩ = some (.pointer (some ⟨mb, 0, none⟩)) ∧ bif bo then (Pm mb mbb W M' ∧ W0.grownBy W (some mbb)) else Below W0.heap.size W0 W) (by decide) (by kernel_rfl) (by kernel_rfl) (by kernel_rfl) (by kernel_rfl) ?_ ?_
  · (try dsimp only)
    refine ⟨⟨y0, y1⟩, c0, ?_⟩
    (try simp only [cond_false]); exact Below.drew (Below.refl _ _)
  (try simp only [List.append_eq, List.cons_append, List.nil_append, List.toList_toArray, List.take_succ_cons, List.take_zero, List.drop_succ_cons, List.drop_zero])
  repeat (first
    | (refine PlanX.val (v := ?_) (by decide) ?_ ?_ ?_; rotate_left; (· rfl); (· (intro bo W hSw; obtain ⟨⟨bx0, bx1⟩, bc0,  -⟩ := hSw; go_simp; all_goals (first | (with_reducible rfl) | (constructor <;> (with_reducible rfl))))); (try simp only [Act.put, List.setIfInBounds_toArray, List.set_cons_zero, List.set_cons_succ]))
    | (refine PlanX.turn (v := .tuple #[.int .i64 0, .int .i64 xe]) (f := ?_) (args := ?_) (by decide) ?_ ?_ ?_ ?_; rotate_left 2; (· rfl); (· (intro W hSw; obtain ⟨⟨bx0, bx1⟩, bc0,  -⟩ := hSw; go_simp; all_goals (first | (with_reducible rfl) | (constructor <;> (with_reducible rfl))))); (· (intro W hSw; exact (HR.out W (Below.trans HB0.out (hSw.2.2.mono (by omega)))).mono fun e w' ⟨h1, h3, h2⟩ => ⟨h1, hSw.1.fr (Fr.ofGrown (F := fun k => k = mbb) h3 (fun b _ e => (Option.some.inj e).symm)) nbw, (Fr.ofGrown (F := fun k => k = mbb) h3 (fun b _ e => (Option.some.inj e).symm)).cell hSw.2.1 nb8, h2, (grown_below hSw.2.2).trans h3⟩)); (try simp only [Act.put, List.setIfInBounds_toArray, List.set_cons_zero, List.set_cons_succ])))
  refine PlanX.done ?_
  intro U T0
  obtain ⟨-, -, hpm, hg⟩ := T0
  have HE := Lib.hid (((Bg.refl HP.out).below HB0.out).trans (HP1.out.mem hg hpm))
  clear hpm hg
  go_wp2
  go_ret2
  exact ⟨rfl, _, _, HE.out⟩
set_option maxRecDepth 100000 in
set_option maxHeartbeats 4000000 in
theorem writeprt_c (h : Pb bb mb mbb pb wb B F G w) (hS : Fit B.S) (reg v t : Int) (ht : 0 ≤ t ∧ t ≤ 255) :
    Calls Tryz.prog 96 #[.pointer (some ⟨bb, 0, none⟩), .int .i64 reg, .agg #[.int .u8 v, .int .u8 t]] w (BgEnd bb mb mbb pb wb F G (wrBV (writeE B.S reg t)) ⟨B.M, B.T, wrPo B.S reg v t B.n, B.W, B.n⟩ w) := by
  have HR := Lib.hid (fun W (hW' : Below w.heap.size w W) => pwrite_c pb B.S F G reg v t B.n ht hS.cyc W (h.below hW').p)
  unfold PEnd writeV at HR
  have c7 := h.c7
  have c9 := h.c9
  have hlt := klt c7
  have HP := Lib.hid h
  clear h
  unfold wrBV
  have hE : BgEnd bb mb mbb pb wb F G (wrBV (writeE B.S reg t)) ⟨B.M, B.T, wrPo B.S reg v t B.n, B.W, B.n⟩ w = BgEnd bb mb mbb pb wb F G (wrBV (writeE B.S reg t)) ⟨B.M, B.T, wrPo B.S reg v t B.n, B.W, B.n⟩ w := rfl
  clear hE
  generalize wrPo B.S reg v t B.n = S' at *
  obtain ⟨⟨xr, xe⟩, hX⟩ : ∃ X, writeE B.S reg t = X := ⟨_, rfl⟩
  rw [hX] at HR ⊢
  dsimp only at HR ⊢
  clear hX
  go_enter Tryz.func96, Tryz.ntmps96
  go_wp2_with fail
  have hB0 : Below w.heap.size w (w.alloc (Obj.cells #[.int .u8 v, .int .u8 t] 49)) := by go_grown
  have HP1 := Lib.hid (HP.out.below hB0)
  obtain ⟨W0, hW0⟩ : ∃ W, W = w.alloc (Obj.cells #[.int .u8 v, .int .u8 t] 49) := ⟨_, rfl⟩
  have y0 : W0.cell? ⟨w.heap.size, 0, none⟩ = some (.int .u8 v) := by rw [hW0]; go_simp; first | done | rfl
  have y1 : W0.cell? ⟨w.heap.size, 1, none⟩ = some (.int .u8 t) := by rw [hW0]; go_simp; first | done | rfl
  have hz0 : w.heap.size < W0.heap.size := by rw [hW0]; simp
  have hz1 : W0.heap.size = w.heap.size + 1 := by rw [hW0]; simp
  rw [← hW0] at hB0 HP1 ⊢
  clear hW0
  have HB0 := Lib.hid hB0
  have c7 := HP1.out.c7
  have c9 := HP1.out.c9
  have sub := (PO.frm _ _).sub HP.out.p
  have nbw : ¬ F w.heap.size := fun e => by have := HP.out.lt _ (.inr (.inr (.inr (.inr (sub _ e))))); omega
  have nb8 : ¬ F bb := fun e => HP.out.s.bg (sub _ e)
  clear hB0 hz1
  refine wp_region_planXD 9 15 10 (fun bo W => Bx w.heap.size v t W ∧ W.cell? ⟨bb, 7, none⟩ = some (.pointer (some ⟨pb, 0, none⟩)) ∧ W.cell? ⟨bb, 9, none⟩ = some (.int .i64 B.n) ∧ bif bo then (∃ F' G', PO pb S' F' G' W ∧ Mv F G F' G' W0 W) else Below W0.heap.size W0 W) (by decide) (by kernel_rfl) (by kernel_rfl) (by kernel_rfl) (by kernel_rfl) ?_ ?_
  · (try dsimp only)
    refine ⟨⟨y0, y1⟩, c7, c9, ?_⟩
    (try simp only [cond_false]); exact Below.drew (Below.refl _ _)
  (try simp only [List.append_eq, List.cons_append, List.nil_append, List.toList_toArray, List.take_succ_cons, List.take_zero, List.drop_succ_cons, List.drop_zero])
  repeat (first
    | (refine PlanX.val (v := ?_) (by decide) ?_ ?_ ?_; rotate_left; (· rfl); (· (intro bo W hSw; obtain ⟨⟨bx0, bx1⟩, bc7, bc9,  -⟩ := hSw; go_simp; all_goals (first | (with_reducible rfl) | (constructor <;> (with_reducible rfl))))); (try simp only [Act.put, List.setIfInBounds_toArray, List.set_cons_zero, List.set_cons_succ]))
    | (refine PlanX.turn (v := .tuple #[.int .i64 xr, .int .i64 xe]) (f := ?_) (args := ?_) (by decide) ?_ ?_ ?_ ?_; rotate_left 2; (· rfl); (· (intro W hSw; obtain ⟨⟨bx0, bx1⟩, bc7, bc9,  -⟩ := hSw; go_simp; all_goals (first | (with_reducible rfl) | (constructor <;> (with_reducible rfl))))); (· (intro W hSw; exact (HR.out W (Below.trans HB0.out (hSw.2.2.2.mono (by omega)))).mono fun e w' ⟨h1, F', G', h2, h3⟩ => ⟨h1, hSw.1.fr h3.fr nbw, h3.fr.cell hSw.2.1 nb8, h3.fr.cell hSw.2.2.1 nb8, F', G', h2, (Mv.ofBelow F G hSw.2.2.2).trans h3⟩)); (try simp only [Act.put, List.setIfInBounds_toArray, List.set_cons_zero, List.set_cons_succ])))
  refine PlanX.done ?_
  intro U T0
  obtain ⟨-, -, -, F', G', hpo, hM⟩ := T0
  have HE := Lib.hid (((Bg.refl HP.out).below HB0.out).trans (HP1.out.ports hM hpo))
  clear hpo hM
  go_wp2
  go_ret2
  exact ⟨rfl, _, _, HE.out⟩
set_option maxRecDepth 100000 in
set_option maxHeartbeats 4000000 in
theorem writetim_no (p : Option Addr) (reg v t : Int) (ht : t ≠ 0) (w : World) :
    Calls Tryz.prog 94 #[.pointer p, .int .i64 reg, .agg #[.int .u8 v, .int .u8 t]] w fun e u => e = .returned (wrBV (4, 20)) ∧ Below w.heap.size w u := by
  have HS := Lib.hid (fun W => snk_c v t W)
  unfold snk at HS
  rw [if_neg ht] at HS
  clear ht
  unfold wrBV at *
  dsimp only at *
  go_enter Tryz.func94, Tryz.ntmps94
  go_wp2_with fail
  ((with_reducible refine (HS.out _).mono ?_); rintro _ u ⟨rfl, hb⟩)
  have hz := hb.size
  (try simp only [World.size_alloc, World.size_setCell, World.size_drew] at hz)
  have hB' : Below w.heap.size w u := by
      refine kb ?_ hb
      go_grown
  clear hb hz
  have hB := hB'; clear hB'
  have hsz := hB.size
  go_wp2
  go_ret2
  exact ⟨rfl, by go_grown⟩
set_option maxRecDepth 100000 in
set_option maxHeartbeats 4000000 in
theorem writetim_c (h : Pb bb mb mbb pb wb B F G w) (hT : B.T.May) (reg v : Int) (hv : 0 ≤ v ∧ v ≤ 255) :
    Calls Tryz.prog 94 #[.pointer (some ⟨bb, 0, none⟩), .int .i64 reg, .agg #[.int .u8 v, .int .u8 0]] w (BgEnd bb mb mbb pb wb F G (wrBV (0, regE reg)) ⟨B.M, writeT B.T reg v, B.S, B.W, B.n⟩ w) := by
  have HS := Lib.hid (fun W => snk_c v 0 W)
  unfold snk at HS
  rw [if_pos rfl] at HS
  have HR := Lib.hid (fun W (hW' : Below w.heap.size w W) => writep_t reg v hv bb 1 B.T hT W (h.t.below hW'))
  unfold TmEnd at HR
  have c0 := h.c0
  have hlt := klt c0
  have HP := Lib.hid h
  clear h
  unfold wrBV at *
  dsimp only at *
  generalize writeT B.T reg v = T' at *
  generalize regE reg = xe at *
  go_enter Tryz.func94, Tryz.ntmps94
  go_wp2_with fail
  have y0 : (w.alloc (Obj.cells #[.int .u8 v, .int .u8 0] 49)).cell? ⟨w.heap.size, 0, none⟩ = some (.int .u8 v) := by go_simp; first | done | rfl
  have y1 : (w.alloc (Obj.cells #[.int .u8 v, .int .u8 0] 49)).cell? ⟨w.heap.size, 1, none⟩ = some (.int .u8 0) := by go_simp; first | done | rfl
  have hB : Below w.heap.size w (w.alloc (Obj.cells #[.int .u8 v, .int .u8 0] 49)) := by go_grown
  refine (HS.out _).mono ?_
  rintro _ W0 ⟨rfl, hb⟩
  have hB0 := Below.trans hB (hb.mono (by simp))
  have HP1 := Lib.hid (HP.out.below hB0)
  have HB0 := Lib.hid hB0
  have y0 := kc hb y0
  have y1 := kc hb y1
  have hz0 := klt y0
  have c0 := HP1.out.c0
  have nbw : ¬ w.heap.size = bb := by omega
  clear hb hB hB0 HS
  go_wp2_with fail
  refine wp_region_planXD 9 9 6 (fun bo W => Bx w.heap.size v 0 W ∧  bif bo then (Tw bb 1 T' W ∧ Tq bb 1 W0 T' W) else Below W0.heap.size W0 W) (by decide) (by kernel_rfl) (by kernel_rfl) (by kernel_rfl) (by kernel_rfl) ?_ ?_
  · (try dsimp only)
    refine ⟨⟨y0, y1⟩,  ?_⟩
    (try simp only [cond_false]); exact Below.drew (Below.refl _ _)
  (try simp only [List.append_eq, List.cons_append, List.nil_append, List.toList_toArray, List.take_succ_cons, List.take_zero, List.drop_succ_cons, List.drop_zero])
  repeat (first
    | (refine PlanX.val (v := ?_) (by decide) ?_ ?_ ?_; rotate_left; (· rfl); (· (intro bo W hSw; obtain ⟨⟨bx0, bx1⟩,  -⟩ := hSw; go_simp; all_goals (first | (with_reducible rfl) | (constructor <;> (with_reducible rfl))))); (try simp only [Act.put, List.setIfInBounds_toArray, List.set_cons_zero, List.set_cons_succ]))
    | (refine PlanX.turn (v := .int .i64 xe) (f := ?_) (args := ?_) (by decide) ?_ ?_ ?_ ?_; rotate_left 2; (· rfl); (· (intro W hSw; obtain ⟨⟨bx0, bx1⟩,  -⟩ := hSw; go_simp; all_goals (first | (with_reducible rfl) | (constructor <;> (with_reducible rfl))))); (· (intro W hSw; exact (HR.out W (Below.trans HB0.out (hSw.2.mono (by omega)))).mono fun e w' ⟨h1, h2⟩ => ⟨h1, hSw.1.fr (Fr.ofGrown (F := fun k => k = bb) h2.g (fun b _ e => (Option.some.inj e).symm)) nbw, h2.t, tq_below hSw.2 (by omega) h2⟩)); (try simp only [Act.put, List.setIfInBounds_toArray, List.set_cons_zero, List.set_cons_succ])))
  refine PlanX.done ?_
  intro U T0
  obtain ⟨-, ht, hq⟩ := T0
  have HE := Lib.hid (((Bg.refl HP.out).below HB0.out).trans (HP1.out.own (Own.ofTq hq) ht ((hq.ot 9 (by omega)).1.trans HP1.out.c9) ((hq.ot 9 (by omega)).2.trans HP1.out.f9)))
  clear ht hq
  go_wp2
  go_ret2
  exact ⟨rfl, _, _, HE.out⟩
end
end Go.Proofs.YtcnejgilmciljaaGreatDoor
