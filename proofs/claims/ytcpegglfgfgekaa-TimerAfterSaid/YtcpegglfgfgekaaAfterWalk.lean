/-
  TimerAfter: its walk.
-/
import Derived.Test.YtcpegglfgfgekaaAwake10
import Derived.Test.YtcpegglfgfgekaaPlanX
set_option linter.unusedSimpArgs false
set_option linter.unusedVariables false
namespace Go.Proofs.Ytcpegglfgfgekaa
open Go.RowKit Go.PlainAid

set_option maxRecDepth 100000 in
set_option maxHeartbeats 4000000 in
theorem after_walk (x : Tm) (n : Int) (hi : -9223372036854775808 ≤ n ∧ n ≤ 9223372036854775807) (w : World) :
    Calls Try.prog 4 #[.agg #[.int .i64 x.l, .int .i64 x.c, .bool x.r, .bool x.a, .bool x.s, .bool x.g], .int .i64 n] w fun e w' => e = .returned (.bool true) ∧ Below w.heap.size w w' := by
  have HMY := Lib.hid (fun W => mayd_c x W)
  have HPL := Lib.hid (fun (x : Tm) W => plain10_c x W)
  by_cases hg : x.May ∧ 0 ≤ n ∧ n ≤ 1099511627776
  · have HAP := Lib.hid (fun W => afterp_c x n hg.1 hg.2.1 hg.2.2 W)
    have HAD := Lib.hid (fun W => afterd_c x n hg.1 hg.2.1 hg.2.2 W)
    rw [(mayT_iff x).2 hg.1] at HMY
    have d1 : decide (n < 0) = false := by simp; omega
    have d2 : decide (1099511627776 < n) = false := by simp; omega
    generalize afterT x n = Y at *
    clear hg hi
    go_enter Try.func4, Try.ntmps4
    go_wp2_with fail
    ((with_reducible refine (HAP.out _).mono ?_); rintro _ u1 ⟨rfl, hb⟩)
    have T : CF u1 w.heap.size 0 (.int .i64 x.l) ∧ CF u1 w.heap.size 1 (.int .i64 x.c) ∧ CF u1 w.heap.size 2 (.bool x.r) ∧ CF u1 w.heap.size 3 (.bool x.a) ∧ CF u1 w.heap.size 4 (.bool x.s) ∧ CF u1 w.heap.size 5 (.bool x.g) := by
        refine ⟨⟨?_, ?_⟩, ⟨?_, ?_⟩, ⟨?_, ?_⟩, ⟨?_, ?_⟩, ⟨?_, ?_⟩, ⟨?_, ?_⟩⟩ <;> first | (refine kc hb ?_ <;> (go_simp; first | done | rfl)) | (refine kfz hb ?_ ?_ <;> first | (go_size; done) | (go_simp; done))
    have hz := hb.size
    (try simp only [World.size_alloc, World.size_setCell, World.size_drew] at hz)
    have L : w.heap.size < u1.heap.size := by omega
    have hB' : Below w.heap.size w u1 := by
        refine kb ?_ hb
        go_grown
    clear hb hz
    obtain ⟨⟨ht_0, ft_0⟩, ⟨ht_1, ft_1⟩, ⟨ht_2, ft_2⟩, ⟨ht_3, ft_3⟩, ⟨ht_4, ft_4⟩, ⟨ht_5, ft_5⟩⟩ := T
    have hlt := L; clear L
    obtain ⟨hnt0, hnt1, hkt1, hnt2, hkt2⟩ := ap0 hlt
    have hB := hB'; clear hB'
    have hsz := hB.size
    go_wp2_with fail
    ((with_reducible refine (HPL.out x _).mono ?_); rintro _ u2 ⟨rfl, hb⟩)
    have T : CF u2 w.heap.size 0 (.int .i64 x.l) ∧ CF u2 w.heap.size 1 (.int .i64 x.c) ∧ CF u2 w.heap.size 2 (.bool x.r) ∧ CF u2 w.heap.size 3 (.bool x.a) ∧ CF u2 w.heap.size 4 (.bool x.s) ∧ CF u2 w.heap.size 5 (.bool x.g) ∧ CF u2 u1.heap.size 0 (.int .i64 Y.l) ∧ CF u2 u1.heap.size 1 (.int .i64 Y.c) ∧ CF u2 u1.heap.size 2 (.bool Y.r) ∧ CF u2 u1.heap.size 3 (.bool Y.a) ∧ CF u2 u1.heap.size 4 (.bool Y.s) ∧ CF u2 u1.heap.size 5 (.bool Y.g) := by
        refine ⟨⟨?_, ?_⟩, ⟨?_, ?_⟩, ⟨?_, ?_⟩, ⟨?_, ?_⟩, ⟨?_, ?_⟩, ⟨?_, ?_⟩, ⟨?_, ?_⟩, ⟨?_, ?_⟩, ⟨?_, ?_⟩, ⟨?_, ?_⟩, ⟨?_, ?_⟩, ⟨?_, ?_⟩⟩ <;> first | (refine kc hb ?_ <;> (go_simp; first | done | rfl)) | (refine kfz hb ?_ ?_ <;> first | (go_size; done) | (go_simp; done))
    have hz := hb.size
    (try simp only [World.size_alloc, World.size_setCell, World.size_drew] at hz)
    have L : w.heap.size < u2.heap.size ∧ u1.heap.size < u2.heap.size := by omega
    have hB' : Below w.heap.size w u2 := by
        refine kb ?_ hb
        go_grown
    clear ht_0 ft_0 ht_1 ft_1 ht_2 ft_2 ht_3 ft_3 ht_4 ft_4 ht_5 ft_5 hlt hnt0 hnt1 hkt1 hnt2 hkt2 hB hsz
    clear hb hz
    obtain ⟨⟨ht_0, ft_0⟩, ⟨ht_1, ft_1⟩, ⟨ht_2, ft_2⟩, ⟨ht_3, ft_3⟩, ⟨ht_4, ft_4⟩, ⟨ht_5, ft_5⟩, ⟨hy_0, fy_0⟩, ⟨hy_1, fy_1⟩, ⟨hy_2, fy_2⟩, ⟨hy_3, fy_3⟩, ⟨hy_4, fy_4⟩, ⟨hy_5, fy_5⟩⟩ := T
    obtain ⟨hlt, hly⟩ := L
    obtain ⟨hnt0, hnt1, hkt1, hnt2, hkt2⟩ := ap0 hlt
    obtain ⟨hny0, hny1, hky1, hny2, hky2⟩ := ap0 hly
    have hB := hB'; clear hB'
    have hsz := hB.size
    go_wp2_with fail
    ((with_reducible refine (HMY.out _).mono ?_); rintro _ u3 ⟨rfl, hb⟩)
    have T : CF u3 w.heap.size 0 (.int .i64 x.l) ∧ CF u3 w.heap.size 1 (.int .i64 x.c) ∧ CF u3 w.heap.size 2 (.bool x.r) ∧ CF u3 w.heap.size 3 (.bool x.a) ∧ CF u3 w.heap.size 4 (.bool x.s) ∧ CF u3 w.heap.size 5 (.bool x.g) ∧ CF u3 u1.heap.size 0 (.int .i64 Y.l) ∧ CF u3 u1.heap.size 1 (.int .i64 Y.c) ∧ CF u3 u1.heap.size 2 (.bool Y.r) ∧ CF u3 u1.heap.size 3 (.bool Y.a) ∧ CF u3 u1.heap.size 4 (.bool Y.s) ∧ CF u3 u1.heap.size 5 (.bool Y.g) := by
        refine ⟨⟨?_, ?_⟩, ⟨?_, ?_⟩, ⟨?_, ?_⟩, ⟨?_, ?_⟩, ⟨?_, ?_⟩, ⟨?_, ?_⟩, ⟨?_, ?_⟩, ⟨?_, ?_⟩, ⟨?_, ?_⟩, ⟨?_, ?_⟩, ⟨?_, ?_⟩, ⟨?_, ?_⟩⟩ <;> first | (refine kc hb ?_ <;> (go_simp; first | done | rfl)) | (refine kfz hb ?_ ?_ <;> first | (go_size; done) | (go_simp; done))
    have hz := hb.size
    (try simp only [World.size_alloc, World.size_setCell, World.size_drew] at hz)
    have L : w.heap.size < u3.heap.size ∧ u1.heap.size < u3.heap.size := by omega
    have hB' : Below w.heap.size w u3 := by
        refine kb ?_ hb
        go_grown
    clear ht_0 ft_0 ht_1 ft_1 ht_2 ft_2 ht_3 ft_3 ht_4 ft_4 ht_5 ft_5 hy_0 fy_0 hy_1 fy_1 hy_2 fy_2 hy_3 fy_3 hy_4 fy_4 hy_5 fy_5 hlt hly hnt0 hnt1 hkt1 hnt2 hkt2 hny0 hny1 hky1 hny2 hky2 hB hsz
    clear hb hz
    obtain ⟨⟨ht_0, ft_0⟩, ⟨ht_1, ft_1⟩, ⟨ht_2, ft_2⟩, ⟨ht_3, ft_3⟩, ⟨ht_4, ft_4⟩, ⟨ht_5, ft_5⟩, ⟨hy_0, fy_0⟩, ⟨hy_1, fy_1⟩, ⟨hy_2, fy_2⟩, ⟨hy_3, fy_3⟩, ⟨hy_4, fy_4⟩, ⟨hy_5, fy_5⟩⟩ := T
    obtain ⟨hlt, hly⟩ := L
    obtain ⟨hnt0, hnt1, hkt1, hnt2, hkt2⟩ := ap0 hlt
    obtain ⟨hny0, hny1, hky1, hny2, hky2⟩ := ap0 hly
    have hB := hB'; clear hB'
    have hsz := hB.size
    go_wp2_with fail
    refine wp_region_plan (fun w' => w'.cell? ⟨w.heap.size, 0, none⟩ = some (.int .i64 x.l) ∧ w'.frozen? ⟨w.heap.size, 0, none⟩ = false ∧ w'.cell? ⟨w.heap.size, 1, none⟩ = some (.int .i64 x.c) ∧ w'.frozen? ⟨w.heap.size, 1, none⟩ = false ∧ w'.cell? ⟨w.heap.size, 2, none⟩ = some (.bool x.r) ∧ w'.frozen? ⟨w.heap.size, 2, none⟩ = false ∧ w'.cell? ⟨w.heap.size, 3, none⟩ = some (.bool x.a) ∧ w'.frozen? ⟨w.heap.size, 3, none⟩ = false ∧ w'.cell? ⟨w.heap.size, 4, none⟩ = some (.bool x.s) ∧ w'.frozen? ⟨w.heap.size, 4, none⟩ = false ∧ w'.cell? ⟨w.heap.size, 5, none⟩ = some (.bool x.g) ∧ w'.frozen? ⟨w.heap.size, 5, none⟩ = false ∧ w'.cell? ⟨u1.heap.size, 0, none⟩ = some (.int .i64 Y.l) ∧ w'.frozen? ⟨u1.heap.size, 0, none⟩ = false ∧ w'.cell? ⟨u1.heap.size, 1, none⟩ = some (.int .i64 Y.c) ∧ w'.frozen? ⟨u1.heap.size, 1, none⟩ = false ∧ w'.cell? ⟨u1.heap.size, 2, none⟩ = some (.bool Y.r) ∧ w'.frozen? ⟨u1.heap.size, 2, none⟩ = false ∧ w'.cell? ⟨u1.heap.size, 3, none⟩ = some (.bool Y.a) ∧ w'.frozen? ⟨u1.heap.size, 3, none⟩ = false ∧ w'.cell? ⟨u1.heap.size, 4, none⟩ = some (.bool Y.s) ∧ w'.frozen? ⟨u1.heap.size, 4, none⟩ = false ∧ w'.cell? ⟨u1.heap.size, 5, none⟩ = some (.bool Y.g) ∧ w'.frozen? ⟨u1.heap.size, 5, none⟩ = false ∧ Below w.heap.size w w') (by kernel_rfl) (by kernel_rfl) (by kernel_rfl) ?_ ?_
    · (try dsimp only)
      refine ⟨?_, ?_, ?_, ?_, ?_, ?_, ?_, ?_, ?_, ?_, ?_, ?_, ?_, ?_, ?_, ?_, ?_, ?_, ?_, ?_, ?_, ?_, ?_, ?_, ?_⟩ <;> first | (go_simp; done) | (simp [*]; done) | go_grown
    repeat (first
      | (refine Plan.val (v := ?_) ?_ ?_ ?_; rotate_left; (· rfl); (· (intro W hSw; (try dsimp only at hSw); go_simp; all_goals (first | (with_reducible rfl) | (constructor <;> (with_reducible rfl)) | (rw [if_neg (by omega)]; done) | (rw [if_neg (by omega)]; with_reducible rfl)))); (try simp only [Act.put, List.setIfInBounds_toArray, List.set_cons_zero, List.set_cons_succ]))
      | (refine Plan.no ?_ ?_; (· rfl); (try simp only [Act.put, List.setIfInBounds_toArray, List.set_cons_zero, List.set_cons_succ]))
      | (refine Plan.call (v := ?_) (f := ?_) (args := ?_) ?_ ?_ ?_ ?_; rotate_left 3; (· rfl); (· (intro W hSw; (try dsimp only at hSw); go_simp; all_goals (first | (with_reducible rfl) | (constructor <;> (with_reducible rfl)) | (rw [if_neg (by omega)]; done) | (rw [if_neg (by omega)]; with_reducible rfl)))); (· (intro W hSw; (try dsimp only at hSw); first | (go_at_call 9; ((with_reducible refine (HPL.out Y _).mono ?_); rintro _ wz ⟨rfl, hb⟩; (refine ⟨?_, ?_⟩; (· with_reducible rfl); exact ⟨kc hb hSw.1, kfz hb (klt hSw.1) hSw.2.1, kc hb hSw.2.2.1, kfz hb (klt hSw.2.2.1) hSw.2.2.2.1, kc hb hSw.2.2.2.2.1, kfz hb (klt hSw.2.2.2.2.1) hSw.2.2.2.2.2.1, kc hb hSw.2.2.2.2.2.2.1, kfz hb (klt hSw.2.2.2.2.2.2.1) hSw.2.2.2.2.2.2.2.1, kc hb hSw.2.2.2.2.2.2.2.2.1, kfz hb (klt hSw.2.2.2.2.2.2.2.2.1) hSw.2.2.2.2.2.2.2.2.2.1, kc hb hSw.2.2.2.2.2.2.2.2.2.2.1, kfz hb (klt hSw.2.2.2.2.2.2.2.2.2.2.1) hSw.2.2.2.2.2.2.2.2.2.2.2.1, kc hb hSw.2.2.2.2.2.2.2.2.2.2.2.2.1, kfz hb (klt hSw.2.2.2.2.2.2.2.2.2.2.2.2.1) hSw.2.2.2.2.2.2.2.2.2.2.2.2.2.1, kc hb hSw.2.2.2.2.2.2.2.2.2.2.2.2.2.2.1, kfz hb (klt hSw.2.2.2.2.2.2.2.2.2.2.2.2.2.2.1) hSw.2.2.2.2.2.2.2.2.2.2.2.2.2.2.2.1, kc hb hSw.2.2.2.2.2.2.2.2.2.2.2.2.2.2.2.2.1, kfz hb (klt hSw.2.2.2.2.2.2.2.2.2.2.2.2.2.2.2.2.1) hSw.2.2.2.2.2.2.2.2.2.2.2.2.2.2.2.2.2.1, kc hb hSw.2.2.2.2.2.2.2.2.2.2.2.2.2.2.2.2.2.2.1, kfz hb (klt hSw.2.2.2.2.2.2.2.2.2.2.2.2.2.2.2.2.2.2.1) hSw.2.2.2.2.2.2.2.2.2.2.2.2.2.2.2.2.2.2.2.1, kc hb hSw.2.2.2.2.2.2.2.2.2.2.2.2.2.2.2.2.2.2.2.2.1, kfz hb (klt hSw.2.2.2.2.2.2.2.2.2.2.2.2.2.2.2.2.2.2.2.2.1) hSw.2.2.2.2.2.2.2.2.2.2.2.2.2.2.2.2.2.2.2.2.2.1, kc hb hSw.2.2.2.2.2.2.2.2.2.2.2.2.2.2.2.2.2.2.2.2.2.2.1, kfz hb (klt hSw.2.2.2.2.2.2.2.2.2.2.2.2.2.2.2.2.2.2.2.2.2.2.1) hSw.2.2.2.2.2.2.2.2.2.2.2.2.2.2.2.2.2.2.2.2.2.2.2.1, kb hSw.2.2.2.2.2.2.2.2.2.2.2.2.2.2.2.2.2.2.2.2.2.2.2.2 hb⟩))) | (go_at_call 9; ((with_reducible refine (HPL.out x _).mono ?_); rintro _ wz ⟨rfl, hb⟩; (refine ⟨?_, ?_⟩; (· with_reducible rfl); exact ⟨kc hb hSw.1, kfz hb (klt hSw.1) hSw.2.1, kc hb hSw.2.2.1, kfz hb (klt hSw.2.2.1) hSw.2.2.2.1, kc hb hSw.2.2.2.2.1, kfz hb (klt hSw.2.2.2.2.1) hSw.2.2.2.2.2.1, kc hb hSw.2.2.2.2.2.2.1, kfz hb (klt hSw.2.2.2.2.2.2.1) hSw.2.2.2.2.2.2.2.1, kc hb hSw.2.2.2.2.2.2.2.2.1, kfz hb (klt hSw.2.2.2.2.2.2.2.2.1) hSw.2.2.2.2.2.2.2.2.2.1, kc hb hSw.2.2.2.2.2.2.2.2.2.2.1, kfz hb (klt hSw.2.2.2.2.2.2.2.2.2.2.1) hSw.2.2.2.2.2.2.2.2.2.2.2.1, kc hb hSw.2.2.2.2.2.2.2.2.2.2.2.2.1, kfz hb (klt hSw.2.2.2.2.2.2.2.2.2.2.2.2.1) hSw.2.2.2.2.2.2.2.2.2.2.2.2.2.1, kc hb hSw.2.2.2.2.2.2.2.2.2.2.2.2.2.2.1, kfz hb (klt hSw.2.2.2.2.2.2.2.2.2.2.2.2.2.2.1) hSw.2.2.2.2.2.2.2.2.2.2.2.2.2.2.2.1, kc hb hSw.2.2.2.2.2.2.2.2.2.2.2.2.2.2.2.2.1, kfz hb (klt hSw.2.2.2.2.2.2.2.2.2.2.2.2.2.2.2.2.1) hSw.2.2.2.2.2.2.2.2.2.2.2.2.2.2.2.2.2.1, kc hb hSw.2.2.2.2.2.2.2.2.2.2.2.2.2.2.2.2.2.2.1, kfz hb (klt hSw.2.2.2.2.2.2.2.2.2.2.2.2.2.2.2.2.2.2.1) hSw.2.2.2.2.2.2.2.2.2.2.2.2.2.2.2.2.2.2.2.1, kc hb hSw.2.2.2.2.2.2.2.2.2.2.2.2.2.2.2.2.2.2.2.2.1, kfz hb (klt hSw.2.2.2.2.2.2.2.2.2.2.2.2.2.2.2.2.2.2.2.2.1) hSw.2.2.2.2.2.2.2.2.2.2.2.2.2.2.2.2.2.2.2.2.2.1, kc hb hSw.2.2.2.2.2.2.2.2.2.2.2.2.2.2.2.2.2.2.2.2.2.2.1, kfz hb (klt hSw.2.2.2.2.2.2.2.2.2.2.2.2.2.2.2.2.2.2.2.2.2.2.1) hSw.2.2.2.2.2.2.2.2.2.2.2.2.2.2.2.2.2.2.2.2.2.2.2.1, kb hSw.2.2.2.2.2.2.2.2.2.2.2.2.2.2.2.2.2.2.2.2.2.2.2.2 hb⟩))) | (go_at_call 21; ((with_reducible refine (HAD.out _).mono ?_); rintro _ wz ⟨rfl, hb⟩; (refine ⟨?_, ?_⟩; (· with_reducible rfl); exact ⟨kc hb hSw.1, kfz hb (klt hSw.1) hSw.2.1, kc hb hSw.2.2.1, kfz hb (klt hSw.2.2.1) hSw.2.2.2.1, kc hb hSw.2.2.2.2.1, kfz hb (klt hSw.2.2.2.2.1) hSw.2.2.2.2.2.1, kc hb hSw.2.2.2.2.2.2.1, kfz hb (klt hSw.2.2.2.2.2.2.1) hSw.2.2.2.2.2.2.2.1, kc hb hSw.2.2.2.2.2.2.2.2.1, kfz hb (klt hSw.2.2.2.2.2.2.2.2.1) hSw.2.2.2.2.2.2.2.2.2.1, kc hb hSw.2.2.2.2.2.2.2.2.2.2.1, kfz hb (klt hSw.2.2.2.2.2.2.2.2.2.2.1) hSw.2.2.2.2.2.2.2.2.2.2.2.1, kc hb hSw.2.2.2.2.2.2.2.2.2.2.2.2.1, kfz hb (klt hSw.2.2.2.2.2.2.2.2.2.2.2.2.1) hSw.2.2.2.2.2.2.2.2.2.2.2.2.2.1, kc hb hSw.2.2.2.2.2.2.2.2.2.2.2.2.2.2.1, kfz hb (klt hSw.2.2.2.2.2.2.2.2.2.2.2.2.2.2.1) hSw.2.2.2.2.2.2.2.2.2.2.2.2.2.2.2.1, kc hb hSw.2.2.2.2.2.2.2.2.2.2.2.2.2.2.2.2.1, kfz hb (klt hSw.2.2.2.2.2.2.2.2.2.2.2.2.2.2.2.2.1) hSw.2.2.2.2.2.2.2.2.2.2.2.2.2.2.2.2.2.1, kc hb hSw.2.2.2.2.2.2.2.2.2.2.2.2.2.2.2.2.2.2.1, kfz hb (klt hSw.2.2.2.2.2.2.2.2.2.2.2.2.2.2.2.2.2.2.1) hSw.2.2.2.2.2.2.2.2.2.2.2.2.2.2.2.2.2.2.2.1, kc hb hSw.2.2.2.2.2.2.2.2.2.2.2.2.2.2.2.2.2.2.2.2.1, kfz hb (klt hSw.2.2.2.2.2.2.2.2.2.2.2.2.2.2.2.2.2.2.2.2.1) hSw.2.2.2.2.2.2.2.2.2.2.2.2.2.2.2.2.2.2.2.2.2.1, kc hb hSw.2.2.2.2.2.2.2.2.2.2.2.2.2.2.2.2.2.2.2.2.2.2.1, kfz hb (klt hSw.2.2.2.2.2.2.2.2.2.2.2.2.2.2.2.2.2.2.2.2.2.2.1) hSw.2.2.2.2.2.2.2.2.2.2.2.2.2.2.2.2.2.2.2.2.2.2.2.1, kb hSw.2.2.2.2.2.2.2.2.2.2.2.2.2.2.2.2.2.2.2.2.2.2.2.2 hb⟩))) | (go_at_call 11; ((with_reducible refine (awake10_c _).mono ?_); rintro _ wz ⟨rfl, hb⟩; (refine ⟨?_, ?_⟩; (· with_reducible rfl); exact ⟨kc hb hSw.1, kfz hb (klt hSw.1) hSw.2.1, kc hb hSw.2.2.1, kfz hb (klt hSw.2.2.1) hSw.2.2.2.1, kc hb hSw.2.2.2.2.1, kfz hb (klt hSw.2.2.2.2.1) hSw.2.2.2.2.2.1, kc hb hSw.2.2.2.2.2.2.1, kfz hb (klt hSw.2.2.2.2.2.2.1) hSw.2.2.2.2.2.2.2.1, kc hb hSw.2.2.2.2.2.2.2.2.1, kfz hb (klt hSw.2.2.2.2.2.2.2.2.1) hSw.2.2.2.2.2.2.2.2.2.1, kc hb hSw.2.2.2.2.2.2.2.2.2.2.1, kfz hb (klt hSw.2.2.2.2.2.2.2.2.2.2.1) hSw.2.2.2.2.2.2.2.2.2.2.2.1, kc hb hSw.2.2.2.2.2.2.2.2.2.2.2.2.1, kfz hb (klt hSw.2.2.2.2.2.2.2.2.2.2.2.2.1) hSw.2.2.2.2.2.2.2.2.2.2.2.2.2.1, kc hb hSw.2.2.2.2.2.2.2.2.2.2.2.2.2.2.1, kfz hb (klt hSw.2.2.2.2.2.2.2.2.2.2.2.2.2.2.1) hSw.2.2.2.2.2.2.2.2.2.2.2.2.2.2.2.1, kc hb hSw.2.2.2.2.2.2.2.2.2.2.2.2.2.2.2.2.1, kfz hb (klt hSw.2.2.2.2.2.2.2.2.2.2.2.2.2.2.2.2.1) hSw.2.2.2.2.2.2.2.2.2.2.2.2.2.2.2.2.2.1, kc hb hSw.2.2.2.2.2.2.2.2.2.2.2.2.2.2.2.2.2.2.1, kfz hb (klt hSw.2.2.2.2.2.2.2.2.2.2.2.2.2.2.2.2.2.2.1) hSw.2.2.2.2.2.2.2.2.2.2.2.2.2.2.2.2.2.2.2.1, kc hb hSw.2.2.2.2.2.2.2.2.2.2.2.2.2.2.2.2.2.2.2.2.1, kfz hb (klt hSw.2.2.2.2.2.2.2.2.2.2.2.2.2.2.2.2.2.2.2.2.1) hSw.2.2.2.2.2.2.2.2.2.2.2.2.2.2.2.2.2.2.2.2.2.1, kc hb hSw.2.2.2.2.2.2.2.2.2.2.2.2.2.2.2.2.2.2.2.2.2.2.1, kfz hb (klt hSw.2.2.2.2.2.2.2.2.2.2.2.2.2.2.2.2.2.2.2.2.2.2.1) hSw.2.2.2.2.2.2.2.2.2.2.2.2.2.2.2.2.2.2.2.2.2.2.2.1, kb hSw.2.2.2.2.2.2.2.2.2.2.2.2.2.2.2.2.2.2.2.2.2.2.2.2 hb⟩))))); (try simp only [Act.put, List.setIfInBounds_toArray, List.set_cons_zero, List.set_cons_succ])))
    refine Plan.done ?_
    intro wz T
    (try dsimp only at T)
    have hBe := T.2.2.2.2.2.2.2.2.2.2.2.2.2.2.2.2.2.2.2.2.2.2.2.2
    go_wp2
    go_ret
    exact ⟨rfl, by go_grown⟩
  · have HAP := Lib.hid (fun W => afterp_bad x n hg W)
    have hd : mayT x = false ∨ mayT x = true ∧ decide (n < 0) = true ∨ mayT x = true ∧ decide (n < 0) = false ∧ decide (1099511627776 < n) = true := by
      cases h : mayT x
      · exact .inl rfl
      · have := (mayT_iff x).1 h
        simp
        by_cases h0 : n < 0
        · exact .inl h0
        · exact .inr ⟨by omega, by
            by_cases h1 : 1099511627776 < n
            · exact h1
            · exact absurd ⟨this, by omega, by omega⟩ hg⟩
    clear hg hi
    rcases hd with hd | ⟨hd, hd1⟩ | ⟨hd, hd1, hd2⟩
    all_goals
      rw [hd] at HMY
      clear hd
      go_enter Try.func4, Try.ntmps4
      go_wp2_with fail
      ((with_reducible refine (HAP.out _).mono ?_); rintro _ u1 ⟨rfl, hb⟩)
      have T : CF u1 w.heap.size 0 (.int .i64 x.l) ∧ CF u1 w.heap.size 1 (.int .i64 x.c) ∧ CF u1 w.heap.size 2 (.bool x.r) ∧ CF u1 w.heap.size 3 (.bool x.a) ∧ CF u1 w.heap.size 4 (.bool x.s) ∧ CF u1 w.heap.size 5 (.bool x.g) := by
          refine ⟨⟨?_, ?_⟩, ⟨?_, ?_⟩, ⟨?_, ?_⟩, ⟨?_, ?_⟩, ⟨?_, ?_⟩, ⟨?_, ?_⟩⟩ <;> first | (refine kc hb ?_ <;> (go_simp; first | done | rfl)) | (refine kfz hb ?_ ?_ <;> first | (go_size; done) | (go_simp; done))
      have hz := hb.size
      (try simp only [World.size_alloc, World.size_setCell, World.size_drew] at hz)
      have L : w.heap.size < u1.heap.size := by omega
      have hB' : Below w.heap.size w u1 := by
          refine kb ?_ hb
          go_grown
      clear hb hz
      obtain ⟨⟨ht_0, ft_0⟩, ⟨ht_1, ft_1⟩, ⟨ht_2, ft_2⟩, ⟨ht_3, ft_3⟩, ⟨ht_4, ft_4⟩, ⟨ht_5, ft_5⟩⟩ := T
      have hlt := L; clear L
      obtain ⟨hnt0, hnt1, hkt1, hnt2, hkt2⟩ := ap0 hlt
      have hB := hB'; clear hB'
      have hsz := hB.size
      go_wp2_with fail
      ((with_reducible refine (HPL.out x _).mono ?_); rintro _ u2 ⟨rfl, hb⟩)
      have T : CF u2 w.heap.size 0 (.int .i64 x.l) ∧ CF u2 w.heap.size 1 (.int .i64 x.c) ∧ CF u2 w.heap.size 2 (.bool x.r) ∧ CF u2 w.heap.size 3 (.bool x.a) ∧ CF u2 w.heap.size 4 (.bool x.s) ∧ CF u2 w.heap.size 5 (.bool x.g) ∧ CF u2 u1.heap.size 0 (.int .i64 0) ∧ CF u2 u1.heap.size 1 (.int .i64 0) ∧ CF u2 u1.heap.size 2 (.bool false) ∧ CF u2 u1.heap.size 3 (.bool false) ∧ CF u2 u1.heap.size 4 (.bool false) ∧ CF u2 u1.heap.size 5 (.bool false) := by
          refine ⟨⟨?_, ?_⟩, ⟨?_, ?_⟩, ⟨?_, ?_⟩, ⟨?_, ?_⟩, ⟨?_, ?_⟩, ⟨?_, ?_⟩, ⟨?_, ?_⟩, ⟨?_, ?_⟩, ⟨?_, ?_⟩, ⟨?_, ?_⟩, ⟨?_, ?_⟩, ⟨?_, ?_⟩⟩ <;> first | (refine kc hb ?_ <;> (go_simp; first | done | rfl)) | (refine kfz hb ?_ ?_ <;> first | (go_size; done) | (go_simp; done))
      have hz := hb.size
      (try simp only [World.size_alloc, World.size_setCell, World.size_drew] at hz)
      have L : w.heap.size < u2.heap.size ∧ u1.heap.size < u2.heap.size := by omega
      have hB' : Below w.heap.size w u2 := by
          refine kb ?_ hb
          go_grown
      clear ht_0 ft_0 ht_1 ft_1 ht_2 ft_2 ht_3 ft_3 ht_4 ft_4 ht_5 ft_5 hlt hnt0 hnt1 hkt1 hnt2 hkt2 hB hsz
      clear hb hz
      obtain ⟨⟨ht_0, ft_0⟩, ⟨ht_1, ft_1⟩, ⟨ht_2, ft_2⟩, ⟨ht_3, ft_3⟩, ⟨ht_4, ft_4⟩, ⟨ht_5, ft_5⟩, ⟨hy_0, fy_0⟩, ⟨hy_1, fy_1⟩, ⟨hy_2, fy_2⟩, ⟨hy_3, fy_3⟩, ⟨hy_4, fy_4⟩, ⟨hy_5, fy_5⟩⟩ := T
      obtain ⟨hlt, hly⟩ := L
      obtain ⟨hnt0, hnt1, hkt1, hnt2, hkt2⟩ := ap0 hlt
      obtain ⟨hny0, hny1, hky1, hny2, hky2⟩ := ap0 hly
      have hB := hB'; clear hB'
      have hsz := hB.size
      go_wp2_with fail
      ((with_reducible refine (HMY.out _).mono ?_); rintro _ u3 ⟨rfl, hb⟩)
      have T : CF u3 w.heap.size 0 (.int .i64 x.l) ∧ CF u3 w.heap.size 1 (.int .i64 x.c) ∧ CF u3 w.heap.size 2 (.bool x.r) ∧ CF u3 w.heap.size 3 (.bool x.a) ∧ CF u3 w.heap.size 4 (.bool x.s) ∧ CF u3 w.heap.size 5 (.bool x.g) ∧ CF u3 u1.heap.size 0 (.int .i64 0) ∧ CF u3 u1.heap.size 1 (.int .i64 0) ∧ CF u3 u1.heap.size 2 (.bool false) ∧ CF u3 u1.heap.size 3 (.bool false) ∧ CF u3 u1.heap.size 4 (.bool false) ∧ CF u3 u1.heap.size 5 (.bool false) := by
          refine ⟨⟨?_, ?_⟩, ⟨?_, ?_⟩, ⟨?_, ?_⟩, ⟨?_, ?_⟩, ⟨?_, ?_⟩, ⟨?_, ?_⟩, ⟨?_, ?_⟩, ⟨?_, ?_⟩, ⟨?_, ?_⟩, ⟨?_, ?_⟩, ⟨?_, ?_⟩, ⟨?_, ?_⟩⟩ <;> first | (refine kc hb ?_ <;> (go_simp; first | done | rfl)) | (refine kfz hb ?_ ?_ <;> first | (go_size; done) | (go_simp; done))
      have hz := hb.size
      (try simp only [World.size_alloc, World.size_setCell, World.size_drew] at hz)
      have L : w.heap.size < u3.heap.size ∧ u1.heap.size < u3.heap.size := by omega
      have hB' : Below w.heap.size w u3 := by
          refine kb ?_ hb
          go_grown
      clear ht_0 ft_0 ht_1 ft_1 ht_2 ft_2 ht_3 ft_3 ht_4 ft_4 ht_5 ft_5 hy_0 fy_0 hy_1 fy_1 hy_2 fy_2 hy_3 fy_3 hy_4 fy_4 hy_5 fy_5 hlt hly hnt0 hnt1 hkt1 hnt2 hkt2 hny0 hny1 hky1 hny2 hky2 hB hsz
      clear hb hz
      obtain ⟨⟨ht_0, ft_0⟩, ⟨ht_1, ft_1⟩, ⟨ht_2, ft_2⟩, ⟨ht_3, ft_3⟩, ⟨ht_4, ft_4⟩, ⟨ht_5, ft_5⟩, ⟨hy_0, fy_0⟩, ⟨hy_1, fy_1⟩, ⟨hy_2, fy_2⟩, ⟨hy_3, fy_3⟩, ⟨hy_4, fy_4⟩, ⟨hy_5, fy_5⟩⟩ := T
      obtain ⟨hlt, hly⟩ := L
      obtain ⟨hnt0, hnt1, hkt1, hnt2, hkt2⟩ := ap0 hlt
      obtain ⟨hny0, hny1, hky1, hny2, hky2⟩ := ap0 hly
      have hB := hB'; clear hB'
      have hsz := hB.size
      go_wp2_with fail
      ((with_reducible refine (awake10_c _).mono ?_); rintro _ u4 ⟨rfl, hb⟩)
      have T : CF u4 w.heap.size 0 (.int .i64 x.l) ∧ CF u4 w.heap.size 1 (.int .i64 x.c) ∧ CF u4 w.heap.size 2 (.bool x.r) ∧ CF u4 w.heap.size 3 (.bool x.a) ∧ CF u4 w.heap.size 4 (.bool x.s) ∧ CF u4 w.heap.size 5 (.bool x.g) ∧ CF u4 u1.heap.size 0 (.int .i64 0) ∧ CF u4 u1.heap.size 1 (.int .i64 0) ∧ CF u4 u1.heap.size 2 (.bool false) ∧ CF u4 u1.heap.size 3 (.bool false) ∧ CF u4 u1.heap.size 4 (.bool false) ∧ CF u4 u1.heap.size 5 (.bool false) := by
          refine ⟨⟨?_, ?_⟩, ⟨?_, ?_⟩, ⟨?_, ?_⟩, ⟨?_, ?_⟩, ⟨?_, ?_⟩, ⟨?_, ?_⟩, ⟨?_, ?_⟩, ⟨?_, ?_⟩, ⟨?_, ?_⟩, ⟨?_, ?_⟩, ⟨?_, ?_⟩, ⟨?_, ?_⟩⟩ <;> first | (refine kc hb ?_ <;> (go_simp; first | done | rfl)) | (refine kfz hb ?_ ?_ <;> first | (go_size; done) | (go_simp; done))
      have hz := hb.size
      (try simp only [World.size_alloc, World.size_setCell, World.size_drew] at hz)
      have L : w.heap.size < u4.heap.size ∧ u1.heap.size < u4.heap.size := by omega
      have hB' : Below w.heap.size w u4 := by
          refine kb ?_ hb
          go_grown
      clear ht_0 ft_0 ht_1 ft_1 ht_2 ft_2 ht_3 ft_3 ht_4 ft_4 ht_5 ft_5 hy_0 fy_0 hy_1 fy_1 hy_2 fy_2 hy_3 fy_3 hy_4 fy_4 hy_5 fy_5 hlt hly hnt0 hnt1 hkt1 hnt2 hkt2 hny0 hny1 hky1 hny2 hky2 hB hsz
      clear hb hz
      obtain ⟨⟨ht_0, ft_0⟩, ⟨ht_1, ft_1⟩, ⟨ht_2, ft_2⟩, ⟨ht_3, ft_3⟩, ⟨ht_4, ft_4⟩, ⟨ht_5, ft_5⟩, ⟨hy_0, fy_0⟩, ⟨hy_1, fy_1⟩, ⟨hy_2, fy_2⟩, ⟨hy_3, fy_3⟩, ⟨hy_4, fy_4⟩, ⟨hy_5, fy_5⟩⟩ := T
      obtain ⟨hlt, hly⟩ := L
      obtain ⟨hnt0, hnt1, hkt1, hnt2, hkt2⟩ := ap0 hlt
      obtain ⟨hny0, hny1, hky1, hny2, hky2⟩ := ap0 hly
      have hB := hB'; clear hB'
      have hsz := hB.size
      go_wp2
      go_ret
      exact ⟨rfl, by go_grown⟩
end Go.Proofs.Ytcpegglfgfgekaa
