/-
  Layer 5, the program: what is wrong with a line.
-/
import Derived.Test.YtpjpoopgafcedaaDoorPrint
set_option linter.unusedSimpArgs false
set_option linter.unusedVariables false
namespace Go.Proofs.YtpjpoopgafcedaaDoor
open Go.RowKit Go.PlainAid

theorem most_dg : ∀ m : Fin 13, ((16 ^ dgP m.val : Nat) : Int) = mostD (m.val : Int) + 1 := by decide +kernel
theorem dg_ways : ∀ m : Fin 13, dgP m.val = 0 ∨ dgP m.val = 2 ∨ dgP m.val = 4 := by decide +kernel
theorem bef_len : ∀ m : Fin 13, (befP m.val).length ≤ 10 := by decide +kernel
theorem aft_len : ∀ m : Fin 13, (aftP m.val).length ≤ 10 := by decide +kernel
theorem dg_four (m : Nat) (h : m < 13) : dgP m ≤ 4 := by rcases dg_ways ⟨m, h⟩ with h | h | h <;> (dsimp only at h; omega)
theorem oldc {w : World} {b n : Nat} {v : Value} (h : w.cell? ⟨b, n, none⟩ = some v) (o : Obj) : (w.alloc o).cell? ⟨b, n, none⟩ = some v := kc (Below.alloc (Below.refl _ _) (Nat.le_refl _) o) h
theorem three_cells {u : World} {b : Nat} {x y z : Value} (h0 : u.cell? ⟨b, 0, none⟩ = some x) (h1 : u.cell? ⟨b, 1, none⟩ = some y) (h2 : u.cell? ⟨b, 2, none⟩ = some z) (v v2 v3 : Value) :
    (((u.setCell ⟨b, 0, none⟩ v).setCell ⟨b, 1, none⟩ v2).setCell ⟨b, 2, none⟩ v3).cell? ⟨b, 0, none⟩ = some v ∧ (((u.setCell ⟨b, 0, none⟩ v).setCell ⟨b, 1, none⟩ v2).setCell ⟨b, 2, none⟩ v3).cell? ⟨b, 1, none⟩ = some v2 ∧ (((u.setCell ⟨b, 0, none⟩ v).setCell ⟨b, 1, none⟩ v2).setCell ⟨b, 2, none⟩ v3).cell? ⟨b, 2, none⟩ = some v3 := by
  have a0 : (u.setCell ⟨b, 0, none⟩ v).cell? ⟨b, 0, none⟩ = some v := World.cell?_setCell_same u _ v h0
  have a1 : (u.setCell ⟨b, 0, none⟩ v).cell? ⟨b, 1, none⟩ = some y := (World.cell?_setCell_other u _ _ v (by simp)).trans h1
  have a2 : (u.setCell ⟨b, 0, none⟩ v).cell? ⟨b, 2, none⟩ = some z := (World.cell?_setCell_other u _ _ v (by simp)).trans h2
  have b0 : ((u.setCell ⟨b, 0, none⟩ v).setCell ⟨b, 1, none⟩ v2).cell? ⟨b, 0, none⟩ = some v := (World.cell?_setCell_other _ _ _ v2 (by simp)).trans a0
  have b1 : ((u.setCell ⟨b, 0, none⟩ v).setCell ⟨b, 1, none⟩ v2).cell? ⟨b, 1, none⟩ = some v2 := World.cell?_setCell_same _ _ v2 a1
  have b2 : ((u.setCell ⟨b, 0, none⟩ v).setCell ⟨b, 1, none⟩ v2).cell? ⟨b, 2, none⟩ = some z := (World.cell?_setCell_other _ _ _ v2 (by simp)).trans a2
  exact ⟨(World.cell?_setCell_other _ _ _ v3 (by simp)).trans b0, (World.cell?_setCell_other _ _ _ v3 (by simp)).trans b1, World.cell?_setCell_same _ _ v3 b2⟩
set_option maxRecDepth 100000 in
set_option maxHeartbeats 1000000 in
theorem check_no (b : Nat) (hb : b < 256) (ho : isOp b = false) (n : Int) (w : World) :
    Calls Tryd.prog 26 #[.agg #[.int .u8 b, .int .i64 n]] w fun e w' => e = .returned (.tuple #[.agg #[.string ⟨#[]⟩, .int .i64 0, .int .i64 0], .int .i64 13]) ∧ Below w.heap.size w w' := by
  have HO := Lib.hid (fun w => of_c b hb w)
  have hv : ofV b = .tuple #[.agg #[.string ⟨#[]⟩, .int .i64 0, .int .i64 0], .int .i64 13] := by unfold ofV opC errOf; rw [ho]; rfl
  rw [hv] at HO
  go_enter Tryd.func26, Tryd.ntmps26
  go_wp2_with fail
  ((with_reducible refine (HO.out _).mono ?_); rintro _ u ⟨rfl, hb⟩)
  have T : u.cell? ⟨w.heap.size, 0, none⟩ = some (.int .u8 b) ∧ u.cell? ⟨w.heap.size, 1, none⟩ = some (.int .i64 n) ∧ u.cell? ⟨w.heap.size + 1, 0, none⟩ = some (.string ⟨#[]⟩) ∧ u.frozen? ⟨w.heap.size + 1, 0, none⟩ = false ∧ u.cell? ⟨w.heap.size + 1, 1, none⟩ = some (.int .i64 0) ∧ u.frozen? ⟨w.heap.size + 1, 1, none⟩ = false ∧ u.cell? ⟨w.heap.size + 1, 2, none⟩ = some (.int .i64 0) ∧ u.frozen? ⟨w.heap.size + 1, 2, none⟩ = false := by
      refine ⟨?_, ?_, ?_, ?_, ?_, ?_, ?_, ?_⟩ <;> first | (refine kc hb ?_ <;> (go_simp; first | done | rfl)) | (refine kfz hb ?_ ?_ <;> first | (go_size; done) | (go_simp; done))
  have hz := hb.size
  (try simp only [World.size_alloc, World.size_setCell, World.size_drew] at hz)
  have hlx' : w.heap.size < u.heap.size := by omega
  have hly' : w.heap.size + 1 < u.heap.size := by omega
  have hB' : Below w.heap.size w u := by
      refine kb ?_ hb
      go_grown
  clear hb hz
  obtain ⟨hx_0, hx_1, hy_0, fy_0, hy_1, fy_1, hy_2, fy_2⟩ := T
  have hlx := hlx'; clear hlx'
  have hly := hly'; clear hly'
  have hnx0 : ¬ (w.heap.size = u.heap.size) := by omega
  have hnx1 : ¬ (w.heap.size = u.heap.size + 1) := by omega
  have hkx1 : w.heap.size < u.heap.size + 1 := by omega
  have hnx2 : ¬ (w.heap.size = u.heap.size + 1 + 1) := by omega
  have hkx2 : w.heap.size < u.heap.size + 1 + 1 := by omega
  have hny0 : ¬ (w.heap.size + 1 = u.heap.size) := by omega
  have hky1 : w.heap.size < u.heap.size := by omega
  have hB := hB'; clear hB'
  have hsz := hB.size
  go_wp2
  have s3 := three_cells hy_0 hy_1 hy_2
  refine bodyPost_ret (v := .tuple #[.agg #[.string ⟨#[]⟩, .int .i64 0, .int .i64 0], .int .i64 13]) (by simp [results, Tryd.results26, go_sem, oldc (s3 _ _ _).1, oldc (s3 _ _ _).2.1, oldc (s3 _ _ _).2.2]) rfl ⟨rfl, by go_grown⟩
set_option maxRecDepth 100000 in
set_option maxHeartbeats 1000000 in
theorem check_op (b m : Nat) (hb : b < 256) (ho : isOp b = true) (hm : m < 13) (hmd : md b = (m : Int)) (n : Int) (w : World) (hl : Laid w) :
    Calls Tryd.prog 26 #[.agg #[.int .u8 b, .int .i64 n]] w fun e w' => e = .returned (.tuple #[.agg (if n < 0 ∨ mostD m < n then #[.string ⟨#[]⟩, .int .i64 0, .int .i64 0] else opC b), .int .i64 (if n < 0 ∨ mostD m < n then 10 else 0)]) ∧ Below w.heap.size w w' := by
  have HO := Lib.hid (fun w => of_c b hb w)
  have hop : opC b = #[.string ⟨(nm b).toArray⟩, .int .i64 m, .int .i64 (kindP (nm b) (md b))] := by unfold opC; rw [ho, hmd]; rfl
  have hv : ofV b = .tuple #[.agg #[.string ⟨(nm b).toArray⟩, .int .i64 m, .int .i64 (kindP (nm b) (md b))], .int .i64 0] := by unfold ofV errOf; rw [hop, ho]; rfl
  rw [hv] at HO
  rw [hop]
  have HH := Lib.hid (fun w => holds_c (befP m) (aftP m) (dgP m) (dg_four m hm) n w)
  have HE := Lib.hid (show (decide (0 ≤ n) && decide (n < ((16 ^ dgP m : Nat) : Int))) = !decide (n < 0 ∨ mostD m < n) from by
    rw [most_dg ⟨m, hm⟩, Bool.eq_iff_iff]
    simp
    omega)
  have k0 := hl.at m 0 hm (by omega)
  have k1 := hl.at m 1 hm (by omega)
  have k2 := hl.at m 2 hm (by omega)
  simp only [Nat.add_zero] at k0
  have hlg : 0 < w.heap.size := by obtain ⟨⟨t, fr, h⟩, _⟩ := hl; exact (Array.getElem?_eq_some_iff.1 h).1
  have hng : ¬ (0 = w.heap.size) := by omega
  have hng1 : ¬ (0 = w.heap.size + 1) := by omega
  have hm13 : (m : Int) < 13 := by omega
  unfold arV at *
  have e0 : (arC m)[0]? = some (.string (txB (befP m))) := rfl
  have e1 : (arC m)[1]? = some (.int .i64 (dgP m)) := rfl
  have e2 : (arC m)[2]? = some (.string (txB (aftP m))) := rfl
  rw [e0] at k0
  rw [e1] at k1
  rw [e2] at k2
  clear e0 e1 e2 hl
  generalize kindP (nm b) (md b) = K at *
  generalize ByteArray.mk (nm b).toArray = N at *
  generalize txB (befP m) = S at *
  generalize txB (aftP m) = T at *
  rw [HE.out] at HH
  clear HE
  have HB : ∀ {α : Type} (x y : α), (if n < 0 ∨ mostD (m : Int) < n then x else y) = if decide (n < 0 ∨ mostD (m : Int) < n) = true then x else y := by
    intro α x y
    simp only [decide_eq_true_eq]
  rw [HB, HB]
  clear HB
  generalize decide (n < 0 ∨ mostD (m : Int) < n) = B at *
  generalize dgP m = D at *
  go_enter Tryd.func26, Tryd.ntmps26
  go_wp2_with fail
  ((with_reducible refine (HO.out _).mono ?_); rintro _ u ⟨rfl, hb⟩)
  have T : u.cell? ⟨w.heap.size, 0, none⟩ = some (.int .u8 b) ∧ u.cell? ⟨w.heap.size, 1, none⟩ = some (.int .i64 n) ∧ u.cell? ⟨w.heap.size + 1, 0, none⟩ = some (.string ⟨#[]⟩) ∧ u.frozen? ⟨w.heap.size + 1, 0, none⟩ = false ∧ u.cell? ⟨w.heap.size + 1, 1, none⟩ = some (.int .i64 0) ∧ u.frozen? ⟨w.heap.size + 1, 1, none⟩ = false ∧ u.cell? ⟨w.heap.size + 1, 2, none⟩ = some (.int .i64 0) ∧ u.frozen? ⟨w.heap.size + 1, 2, none⟩ = false ∧ u.cell? ⟨0, m * 3, none⟩ = some (.string S) ∧ u.cell? ⟨0, m * 3 + 1, none⟩ = some (.int .i64 D) ∧ u.cell? ⟨0, m * 3 + 2, none⟩ = some (.string T) := by
      refine ⟨?_, ?_, ?_, ?_, ?_, ?_, ?_, ?_, ?_, ?_, ?_⟩ <;> first | (refine kc hb ?_ <;> (go_simp; first | done | rfl)) | (refine kfz hb ?_ ?_ <;> first | (go_size; done) | (go_simp; done))
  have hz := hb.size
  (try simp only [World.size_alloc, World.size_setCell, World.size_drew] at hz)
  have hlx' : w.heap.size < u.heap.size := by omega
  have hly' : w.heap.size + 1 < u.heap.size := by omega
  have hlg' : 0 < u.heap.size := by omega
  have hB' : Below w.heap.size w u := by
      refine kb ?_ hb
      go_grown
  clear hb hz
  obtain ⟨hx_0, hx_1, hy_0, fy_0, hy_1, fy_1, hy_2, fy_2, hg_0, hg_1, hg_2⟩ := T
  have hlx := hlx'; clear hlx'
  have hly := hly'; clear hly'
  have hlg := hlg'; clear hlg'
  have hnx0 : ¬ (w.heap.size = u.heap.size) := by omega
  have hnx1 : ¬ (w.heap.size = u.heap.size + 1) := by omega
  have hkx1 : w.heap.size < u.heap.size + 1 := by omega
  have hnx2 : ¬ (w.heap.size = u.heap.size + 1 + 1) := by omega
  have hkx2 : w.heap.size < u.heap.size + 1 + 1 := by omega
  have hny0 : ¬ (w.heap.size + 1 = u.heap.size) := by omega
  have hky1 : w.heap.size < u.heap.size := by omega
  have hng0 : ¬ (0 = u.heap.size) := by omega
  have hng1 : ¬ (0 = u.heap.size + 1) := by omega
  have hkg1 : 0 < u.heap.size + 1 := by omega
  have hng2 : ¬ (0 = u.heap.size + 1 + 1) := by omega
  have hkg2 : 0 < u.heap.size + 1 + 1 := by omega
  have hB := hB'; clear hB'
  have hsz := hB.size
  go_wp2_with fail
  refine wp_pin (fun w' => w'.cell? ⟨w.heap.size, 0, none⟩ = some (.int .u8 b) ∧ w'.cell? ⟨w.heap.size, 1, none⟩ = some (.int .i64 n) ∧ w'.cell? ⟨w.heap.size + 1, 0, none⟩ = some (.string ⟨#[]⟩) ∧ w'.frozen? ⟨w.heap.size + 1, 0, none⟩ = false ∧ w'.cell? ⟨w.heap.size + 1, 1, none⟩ = some (.int .i64 0) ∧ w'.frozen? ⟨w.heap.size + 1, 1, none⟩ = false ∧ w'.cell? ⟨w.heap.size + 1, 2, none⟩ = some (.int .i64 0) ∧ w'.frozen? ⟨w.heap.size + 1, 2, none⟩ = false ∧ w'.cell? ⟨u.heap.size, 0, none⟩ = some (.string N) ∧ w'.cell? ⟨u.heap.size, 1, none⟩ = some (.int .i64 m) ∧ w'.cell? ⟨u.heap.size, 2, none⟩ = some (.int .i64 K) ∧ w'.cell? ⟨0, m * 3, none⟩ = some (.string S) ∧ w'.cell? ⟨0, m * 3 + 1, none⟩ = some (.int .i64 D) ∧ w'.cell? ⟨0, m * 3 + 2, none⟩ = some (.string T) ∧ Below w.heap.size w w') ?_ ?_
  · (try dsimp only)
    refine ⟨?_, ?_, ?_, ?_, ?_, ?_, ?_, ?_, ?_, ?_, ?_, ?_, ?_, ?_, ?_⟩ <;> first | (go_simp; done) | (simp [*]; done) | go_grown
  intro u2 T
  (try dsimp only at T)
  clear hx_0 hx_1 hy_0 fy_0 hy_1 fy_1 hy_2 fy_2 hg_0 hg_1 hg_2 hlx hly hlg hnx0 hnx1 hkx1 hnx2 hkx2 hny0 hky1 hng0 hng1 hkg1 hng2 hkg2 hB hsz
  obtain ⟨hx_0, hx_1, hy_0, fy_0, hy_1, fy_1, hy_2, fy_2, hr_0, hr_1, hr_2, hg_0, hg_1, hg_2, hB⟩ := T
  have hsz := hB.size
  have hlx := klt hx_0
  have hly := klt hy_0
  have hlr := klt hr_0
  have hlg := klt hg_0
  have hnx0 : ¬ (w.heap.size = u2.heap.size) := by omega
  have hnx1 : ¬ (w.heap.size = u2.heap.size + 1) := by omega
  have hkx1 : w.heap.size < u2.heap.size + 1 := by omega
  have hnx2 : ¬ (w.heap.size = u2.heap.size + 1 + 1) := by omega
  have hkx2 : w.heap.size < u2.heap.size + 1 + 1 := by omega
  have hny0 : ¬ (w.heap.size + 1 = u2.heap.size) := by omega
  have hky1 : w.heap.size < u2.heap.size := by omega
  have hnr0 : ¬ (u.heap.size = u2.heap.size) := by omega
  have hnr1 : ¬ (u.heap.size = u2.heap.size + 1) := by omega
  have hkr1 : u.heap.size < u2.heap.size + 1 := by omega
  have hnr2 : ¬ (u.heap.size = u2.heap.size + 1 + 1) := by omega
  have hkr2 : u.heap.size < u2.heap.size + 1 + 1 := by omega
  have hng0 : ¬ (0 = u2.heap.size) := by omega
  have hng1 : ¬ (0 = u2.heap.size + 1) := by omega
  have hkg1 : 0 < u2.heap.size + 1 := by omega
  have hng2 : ¬ (0 = u2.heap.size + 1 + 1) := by omega
  have hkg2 : 0 < u2.heap.size + 1 + 1 := by omega
  refine wp_region_planT 7 (fun w' => w'.cell? ⟨w.heap.size, 0, none⟩ = some (.int .u8 b) ∧ w'.cell? ⟨w.heap.size, 1, none⟩ = some (.int .i64 n) ∧ w'.cell? ⟨w.heap.size + 1, 0, none⟩ = some (.string ⟨#[]⟩) ∧ w'.frozen? ⟨w.heap.size + 1, 0, none⟩ = false ∧ w'.cell? ⟨w.heap.size + 1, 1, none⟩ = some (.int .i64 0) ∧ w'.frozen? ⟨w.heap.size + 1, 1, none⟩ = false ∧ w'.cell? ⟨w.heap.size + 1, 2, none⟩ = some (.int .i64 0) ∧ w'.frozen? ⟨w.heap.size + 1, 2, none⟩ = false ∧ w'.cell? ⟨u.heap.size, 0, none⟩ = some (.string N) ∧ w'.cell? ⟨u.heap.size, 1, none⟩ = some (.int .i64 m) ∧ w'.cell? ⟨u.heap.size, 2, none⟩ = some (.int .i64 K) ∧ w'.cell? ⟨0, m * 3, none⟩ = some (.string S) ∧ w'.cell? ⟨0, m * 3 + 1, none⟩ = some (.int .i64 D) ∧ w'.cell? ⟨0, m * 3 + 2, none⟩ = some (.string T) ∧ Below w.heap.size w w') (by kernel_rfl) (by kernel_rfl) (by kernel_rfl) (by kernel_rfl) ?_ ?_
  · (try dsimp only)
    refine ⟨?_, ?_, ?_, ?_, ?_, ?_, ?_, ?_, ?_, ?_, ?_, ?_, ?_, ?_, ?_⟩ <;> first | (go_simp; done) | (simp [*]; done) | go_grown
  (try simp only [List.append_eq, List.cons_append, List.nil_append, List.toList_toArray, List.take_succ_cons, List.take_zero, List.drop_succ_cons, List.drop_zero])
  repeat (first
    | (refine Plan.val (v := ?_) ?_ ?_ ?_; rotate_left; (· rfl); (· (intro W hSw; (try dsimp only at hSw); go_simp; all_goals (first | (with_reducible rfl) | (constructor <;> (with_reducible rfl))))); (try simp only [Act.put, List.setIfInBounds_toArray, List.set_cons_zero, List.set_cons_succ]))
    | (refine Plan.no ?_ ?_; (· rfl); (try simp only [Act.put, List.setIfInBounds_toArray, List.set_cons_zero, List.set_cons_succ]))
    | (refine Plan.call (v := ?_) (f := ?_) (args := ?_) ?_ ?_ ?_ ?_; rotate_left 3; (· rfl); (· (intro W hSw; (try dsimp only at hSw); go_simp; all_goals (first | (with_reducible rfl) | (constructor <;> (with_reducible rfl))))); (· (intro W hSw; (try dsimp only at hSw); first | (go_at_call 42; ((with_reducible refine (HH.out _).mono ?_); rintro _ wz ⟨rfl, hb⟩; (refine ⟨?_, ?_⟩; (· with_reducible rfl); exact ⟨kc hb hSw.1, kc hb hSw.2.1, kc hb hSw.2.2.1, kfz hb (klt hSw.2.2.1) hSw.2.2.2.1, kc hb hSw.2.2.2.2.1, kfz hb (klt hSw.2.2.2.2.1) hSw.2.2.2.2.2.1, kc hb hSw.2.2.2.2.2.2.1, kfz hb (klt hSw.2.2.2.2.2.2.1) hSw.2.2.2.2.2.2.2.1, kc hb hSw.2.2.2.2.2.2.2.2.1, kc hb hSw.2.2.2.2.2.2.2.2.2.1, kc hb hSw.2.2.2.2.2.2.2.2.2.2.1, kc hb hSw.2.2.2.2.2.2.2.2.2.2.2.1, kc hb hSw.2.2.2.2.2.2.2.2.2.2.2.2.1, kc hb hSw.2.2.2.2.2.2.2.2.2.2.2.2.2.1, kb hSw.2.2.2.2.2.2.2.2.2.2.2.2.2.2 hb⟩))))); (try simp only [Act.put, List.setIfInBounds_toArray, List.set_cons_zero, List.set_cons_succ])))
  refine Plan.done ?_
  intro u3 T
  (try dsimp only at T)
  clear hx_0 hx_1 hy_0 fy_0 hy_1 fy_1 hy_2 fy_2 hr_0 hr_1 hr_2 hg_0 hg_1 hg_2 hB hsz hlx hly hlr hlg hnx0 hnx1 hkx1 hnx2 hkx2 hny0 hky1 hnr0 hnr1 hkr1 hnr2 hkr2 hng0 hng1 hkg1 hng2 hkg2
  obtain ⟨hx_0, hx_1, hy_0, fy_0, hy_1, fy_1, hy_2, fy_2, hr_0, hr_1, hr_2, hg_0, hg_1, hg_2, hB⟩ := T
  have hsz := hB.size
  have hlx := klt hx_0
  have hly := klt hy_0
  have hlr := klt hr_0
  have hlg := klt hg_0
  have hnx0 : ¬ (w.heap.size = u3.heap.size) := by omega
  have hnx1 : ¬ (w.heap.size = u3.heap.size + 1) := by omega
  have hkx1 : w.heap.size < u3.heap.size + 1 := by omega
  have hnx2 : ¬ (w.heap.size = u3.heap.size + 1 + 1) := by omega
  have hkx2 : w.heap.size < u3.heap.size + 1 + 1 := by omega
  have hny0 : ¬ (w.heap.size + 1 = u3.heap.size) := by omega
  have hky1 : w.heap.size < u3.heap.size := by omega
  have hnr0 : ¬ (u.heap.size = u3.heap.size) := by omega
  have hnr1 : ¬ (u.heap.size = u3.heap.size + 1) := by omega
  have hkr1 : u.heap.size < u3.heap.size + 1 := by omega
  have hnr2 : ¬ (u.heap.size = u3.heap.size + 1 + 1) := by omega
  have hkr2 : u.heap.size < u3.heap.size + 1 + 1 := by omega
  have hng0 : ¬ (0 = u3.heap.size) := by omega
  have hng1 : ¬ (0 = u3.heap.size + 1) := by omega
  have hkg1 : 0 < u3.heap.size + 1 := by omega
  have hng2 : ¬ (0 = u3.heap.size + 1 + 1) := by omega
  have hkg2 : 0 < u3.heap.size + 1 + 1 := by omega
  have s3 := three_cells hy_0 hy_1 hy_2
  cases B
  · go_wp2
    refine bodyPost_ret (v := .tuple #[.agg #[.string N, .int .i64 m, .int .i64 K], .int .i64 0]) (by simp [results, Tryd.results26, go_sem, s3]) rfl ⟨rfl, by go_grown⟩
  · go_wp2
    refine bodyPost_ret (v := .tuple #[.agg #[.string ⟨#[]⟩, .int .i64 0, .int .i64 0], .int .i64 10]) (by simp [results, Tryd.results26, go_sem, s3]) rfl ⟨rfl, by go_grown⟩
end Go.Proofs.YtpjpoopgafcedaaDoor
