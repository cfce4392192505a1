/-
  The program's timer: After.
  The program's bus: New.
  The program: Same, of bytes and of memories.
-/
import Derived.Test.YtcnejgilmciljaaGreatDoorClonep11
import Derived.Test.YtcnejgilmciljaaGreatDoorClone13
import Derived.Test.YtcnejgilmciljaaGreatDoorLast11
set_option linter.unusedSimpArgs false
set_option linter.unusedVariables false
namespace Go.Proofs.YtcnejgilmciljaaGreatDoor
open Go.RowKit Go.PlainAid

theorem mayI_iff (n : Int) : mayI n = true ↔ 0 ≤ n ∧ n < 65536 := by
  unfold mayI
  simp only [Bool.and_eq_true, decide_eq_true_eq]
  omega
theorem mayI_not (n : Int) (h : ¬ (0 ≤ n ∧ n < 65536)) : mayI n = false := by
  cases e : mayI n
  · rfl
  · exact absurd ((mayI_iff n).1 e) h
theorem ret_tup6 {l c : Int} {r a s g : Bool} {y : Tm} (h : y = ⟨l, c, r, a, s, g⟩) : Ending.returned (.tuple #[.agg #[.int .i64 l, .int .i64 c, .bool r, .bool a, .bool s, .bool g], .int .i64 0]) = .returned (.tuple #[.agg #[.int .i64 y.l, .int .i64 y.c, .bool y.r, .bool y.a, .bool y.s, .bool y.g], .int .i64 0]) := by rw [h]
set_option maxRecDepth 100000 in
set_option maxHeartbeats 2000000 in
theorem afterp_bad (x : Tm) (n : Int) (h : ¬ (x.May ∧ 0 ≤ n ∧ n ≤ 1099511627776)) (w : World) : Calls Tryz.prog 69 #[.agg #[.int .i64 x.l, .int .i64 x.c, .bool x.r, .bool x.a, .bool x.s, .bool x.g], .int .i64 n] w
    fun e w' => e = .returned (.tuple #[.agg #[.int .i64 0, .int .i64 0, .bool false, .bool false, .bool false, .bool false], .int .i64 10]) ∧ Below w.heap.size w w' := by
  obtain ⟨l, c, r, a, s, g⟩ := x
  unfold Tm.May at h
  dsimp only at h ⊢
  have HL := Lib.hid (fun W => maybe_c l W)
  have HC := Lib.hid (fun W => maybe_c c W)
  by_cases h1 : 0 ≤ l ∧ l < 65536
  case neg =>
    rw [mayI_not l h1] at HL
    clear h h1
    go_enter Tryz.func69, Tryz.ntmps69
    go_wp2_with fail
    refine wp_scope_hid 0 fun C hC => ?_
    go_wp2_with fail
    ((with_reducible refine (HL.out _).mono ?_); rintro _ u1 ⟨rfl, hb⟩)
    have T : CF u1 w.heap.size 0 (.int .i64 l) ∧ CF u1 w.heap.size 1 (.int .i64 c) ∧ CF u1 w.heap.size 2 (.bool r) ∧ CF u1 w.heap.size 3 (.bool a) ∧ CF u1 w.heap.size 4 (.bool s) ∧ CF u1 w.heap.size 5 (.bool g) ∧ CF u1 (w.heap.size + 1) 0 (.int .i64 0) ∧ CF u1 (w.heap.size + 1) 1 (.int .i64 0) ∧ CF u1 (w.heap.size + 1) 2 (.bool false) ∧ CF u1 (w.heap.size + 1) 3 (.bool false) ∧ CF u1 (w.heap.size + 1) 4 (.bool false) ∧ CF u1 (w.heap.size + 1) 5 (.bool false) := by
        refine ⟨⟨?_, ?_⟩, ⟨?_, ?_⟩, ⟨?_, ?_⟩, ⟨?_, ?_⟩, ⟨?_, ?_⟩, ⟨?_, ?_⟩, ⟨?_, ?_⟩, ⟨?_, ?_⟩, ⟨?_, ?_⟩, ⟨?_, ?_⟩, ⟨?_, ?_⟩, ⟨?_, ?_⟩⟩ <;> first | (refine kc hb ?_ <;> (go_simp; first | done | rfl)) | (refine kfz hb ?_ ?_ <;> first | (go_size; done) | (go_simp; done))
    have hz := hb.size
    (try simp only [World.size_alloc, World.size_setCell, World.size_drew] at hz)
    have L : w.heap.size < u1.heap.size ∧ w.heap.size + 1 < u1.heap.size := by omega
    have hB' : Below w.heap.size w u1 := by
        refine kb ?_ hb
        go_grown
    clear hb hz
    obtain ⟨⟨ht_0, ft_0⟩, ⟨ht_1, ft_1⟩, ⟨ht_2, ft_2⟩, ⟨ht_3, ft_3⟩, ⟨ht_4, ft_4⟩, ⟨ht_5, ft_5⟩, ⟨hz_0, fz_0⟩, ⟨hz_1, fz_1⟩, ⟨hz_2, fz_2⟩, ⟨hz_3, fz_3⟩, ⟨hz_4, fz_4⟩, ⟨hz_5, fz_5⟩⟩ := T
    obtain ⟨hlt, hlz⟩ := L
    obtain ⟨hnt0, hnt1, hkt1, hnt2, hkt2⟩ := ap0 hlt
    obtain ⟨hnz0, hkz1⟩ := ap1 hlz
    have hB := hB'; clear hB'
    have hsz := hB.size
    go_wp2
    (try rw [Into.ret])
    refine bodyPost_ret (v := .tuple #[.agg #[.int .i64 0, .int .i64 0, .bool false, .bool false, .bool false, .bool false], .int .i64 10]) (by simp [results, Tryz.results69, go_sem, hz_0, hz_1, hz_2, hz_3, hz_4, hz_5] <;> first | done | rfl) rfl ⟨rfl, by go_grown⟩
  rw [(mayI_iff l).2 h1] at HL
  by_cases h2 : 0 ≤ c ∧ c < 65536
  case neg =>
    rw [mayI_not c h2] at HC
    clear h h1 h2
    go_enter Tryz.func69, Tryz.ntmps69
    go_wp2_with fail
    refine wp_scope_hid 0 fun C hC => ?_
    go_wp2_with fail
    ((with_reducible refine (HL.out _).mono ?_); rintro _ u1 ⟨rfl, hb⟩)
    have T : CF u1 w.heap.size 0 (.int .i64 l) ∧ CF u1 w.heap.size 1 (.int .i64 c) ∧ CF u1 w.heap.size 2 (.bool r) ∧ CF u1 w.heap.size 3 (.bool a) ∧ CF u1 w.heap.size 4 (.bool s) ∧ CF u1 w.heap.size 5 (.bool g) ∧ CF u1 (w.heap.size + 1) 0 (.int .i64 0) ∧ CF u1 (w.heap.size + 1) 1 (.int .i64 0) ∧ CF u1 (w.heap.size + 1) 2 (.bool false) ∧ CF u1 (w.heap.size + 1) 3 (.bool false) ∧ CF u1 (w.heap.size + 1) 4 (.bool false) ∧ CF u1 (w.heap.size + 1) 5 (.bool false) := by
        refine ⟨⟨?_, ?_⟩, ⟨?_, ?_⟩, ⟨?_, ?_⟩, ⟨?_, ?_⟩, ⟨?_, ?_⟩, ⟨?_, ?_⟩, ⟨?_, ?_⟩, ⟨?_, ?_⟩, ⟨?_, ?_⟩, ⟨?_, ?_⟩, ⟨?_, ?_⟩, ⟨?_, ?_⟩⟩ <;> first | (refine kc hb ?_ <;> (go_simp; first | done | rfl)) | (refine kfz hb ?_ ?_ <;> first | (go_size; done) | (go_simp; done))
    have hz := hb.size
    (try simp only [World.size_alloc, World.size_setCell, World.size_drew] at hz)
    have L : w.heap.size < u1.heap.size ∧ w.heap.size + 1 < u1.heap.size := by omega
    have hB' : Below w.heap.size w u1 := by
        refine kb ?_ hb
        go_grown
    clear hb hz
    obtain ⟨⟨ht_0, ft_0⟩, ⟨ht_1, ft_1⟩, ⟨ht_2, ft_2⟩, ⟨ht_3, ft_3⟩, ⟨ht_4, ft_4⟩, ⟨ht_5, ft_5⟩, ⟨hz_0, fz_0⟩, ⟨hz_1, fz_1⟩, ⟨hz_2, fz_2⟩, ⟨hz_3, fz_3⟩, ⟨hz_4, fz_4⟩, ⟨hz_5, fz_5⟩⟩ := T
    obtain ⟨hlt, hlz⟩ := L
    obtain ⟨hnt0, hnt1, hkt1, hnt2, hkt2⟩ := ap0 hlt
    obtain ⟨hnz0, hkz1⟩ := ap1 hlz
    have hB := hB'; clear hB'
    have hsz := hB.size
    go_wp2_with fail
    ((with_reducible refine (HC.out _).mono ?_); rintro _ u2 ⟨rfl, hb⟩)
    have T : CF u2 w.heap.size 0 (.int .i64 l) ∧ CF u2 w.heap.size 1 (.int .i64 c) ∧ CF u2 w.heap.size 2 (.bool r) ∧ CF u2 w.heap.size 3 (.bool a) ∧ CF u2 w.heap.size 4 (.bool s) ∧ CF u2 w.heap.size 5 (.bool g) ∧ CF u2 (w.heap.size + 1) 0 (.int .i64 0) ∧ CF u2 (w.heap.size + 1) 1 (.int .i64 0) ∧ CF u2 (w.heap.size + 1) 2 (.bool false) ∧ CF u2 (w.heap.size + 1) 3 (.bool false) ∧ CF u2 (w.heap.size + 1) 4 (.bool false) ∧ CF u2 (w.heap.size + 1) 5 (.bool false) := by
        refine ⟨⟨?_, ?_⟩, ⟨?_, ?_⟩, ⟨?_, ?_⟩, ⟨?_, ?_⟩, ⟨?_, ?_⟩, ⟨?_, ?_⟩, ⟨?_, ?_⟩, ⟨?_, ?_⟩, ⟨?_, ?_⟩, ⟨?_, ?_⟩, ⟨?_, ?_⟩, ⟨?_, ?_⟩⟩ <;> first | (refine kc hb ?_ <;> (go_simp; first | done | rfl)) | (refine kfz hb ?_ ?_ <;> first | (go_size; done) | (go_simp; done))
    have hz := hb.size
    (try simp only [World.size_alloc, World.size_setCell, World.size_drew] at hz)
    have L : w.heap.size < u2.heap.size ∧ w.heap.size + 1 < u2.heap.size := by omega
    have hB' : Below w.heap.size w u2 := by
        refine kb ?_ hb
        go_grown
    clear ht_0 ft_0 ht_1 ft_1 ht_2 ft_2 ht_3 ft_3 ht_4 ft_4 ht_5 ft_5 hz_0 fz_0 hz_1 fz_1 hz_2 fz_2 hz_3 fz_3 hz_4 fz_4 hz_5 fz_5 hlt hlz hnt0 hnt1 hkt1 hnt2 hkt2 hnz0 hkz1 hB hsz
    clear hb hz
    obtain ⟨⟨ht_0, ft_0⟩, ⟨ht_1, ft_1⟩, ⟨ht_2, ft_2⟩, ⟨ht_3, ft_3⟩, ⟨ht_4, ft_4⟩, ⟨ht_5, ft_5⟩, ⟨hz_0, fz_0⟩, ⟨hz_1, fz_1⟩, ⟨hz_2, fz_2⟩, ⟨hz_3, fz_3⟩, ⟨hz_4, fz_4⟩, ⟨hz_5, fz_5⟩⟩ := T
    obtain ⟨hlt, hlz⟩ := L
    obtain ⟨hnt0, hnt1, hkt1, hnt2, hkt2⟩ := ap0 hlt
    obtain ⟨hnz0, hkz1⟩ := ap1 hlz
    have hB := hB'; clear hB'
    have hsz := hB.size
    go_wp2
    (try rw [Into.ret])
    refine bodyPost_ret (v := .tuple #[.agg #[.int .i64 0, .int .i64 0, .bool false, .bool false, .bool false, .bool false], .int .i64 10]) (by simp [results, Tryz.results69, go_sem, hz_0, hz_1, hz_2, hz_3, hz_4, hz_5] <;> first | done | rfl) rfl ⟨rfl, by go_grown⟩
  rw [(mayI_iff c).2 h2] at HC
  have h3 : n < 0 ∨ 0 ≤ n ∧ 1099511627776 < n := by omega
  clear h h1 h2
  rcases h3 with h3 | ⟨h3, h4⟩
  all_goals
    go_enter Tryz.func69, Tryz.ntmps69
    go_wp2_with fail
    refine wp_scope_hid 0 fun C hC => ?_
    go_wp2_with fail
    ((with_reducible refine (HL.out _).mono ?_); rintro _ u1 ⟨rfl, hb⟩)
    have T : CF u1 w.heap.size 0 (.int .i64 l) ∧ CF u1 w.heap.size 1 (.int .i64 c) ∧ CF u1 w.heap.size 2 (.bool r) ∧ CF u1 w.heap.size 3 (.bool a) ∧ CF u1 w.heap.size 4 (.bool s) ∧ CF u1 w.heap.size 5 (.bool g) ∧ CF u1 (w.heap.size + 1) 0 (.int .i64 0) ∧ CF u1 (w.heap.size + 1) 1 (.int .i64 0) ∧ CF u1 (w.heap.size + 1) 2 (.bool false) ∧ CF u1 (w.heap.size + 1) 3 (.bool false) ∧ CF u1 (w.heap.size + 1) 4 (.bool false) ∧ CF u1 (w.heap.size + 1) 5 (.bool false) := by
        refine ⟨⟨?_, ?_⟩, ⟨?_, ?_⟩, ⟨?_, ?_⟩, ⟨?_, ?_⟩, ⟨?_, ?_⟩, ⟨?_, ?_⟩, ⟨?_, ?_⟩, ⟨?_, ?_⟩, ⟨?_, ?_⟩, ⟨?_, ?_⟩, ⟨?_, ?_⟩, ⟨?_, ?_⟩⟩ <;> first | (refine kc hb ?_ <;> (go_simp; first | done | rfl)) | (refine kfz hb ?_ ?_ <;> first | (go_size; done) | (go_simp; done))
    have hz := hb.size
    (try simp only [World.size_alloc, World.size_setCell, World.size_drew] at hz)
    have L : w.heap.size < u1.heap.size ∧ w.heap.size + 1 < u1.heap.size := by omega
    have hB' : Below w.heap.size w u1 := by
        refine kb ?_ hb
        go_grown
    clear hb hz
    obtain ⟨⟨ht_0, ft_0⟩, ⟨ht_1, ft_1⟩, ⟨ht_2, ft_2⟩, ⟨ht_3, ft_3⟩, ⟨ht_4, ft_4⟩, ⟨ht_5, ft_5⟩, ⟨hz_0, fz_0⟩, ⟨hz_1, fz_1⟩, ⟨hz_2, fz_2⟩, ⟨hz_3, fz_3⟩, ⟨hz_4, fz_4⟩, ⟨hz_5, fz_5⟩⟩ := T
    obtain ⟨hlt, hlz⟩ := L
    obtain ⟨hnt0, hnt1, hkt1, hnt2, hkt2⟩ := ap0 hlt
    obtain ⟨hnz0, hkz1⟩ := ap1 hlz
    have hB := hB'; clear hB'
    have hsz := hB.size
    go_wp2_with fail
    ((with_reducible refine (HC.out _).mono ?_); rintro _ u2 ⟨rfl, hb⟩)
    have T : CF u2 w.heap.size 0 (.int .i64 l) ∧ CF u2 w.heap.size 1 (.int .i64 c) ∧ CF u2 w.heap.size 2 (.bool r) ∧ CF u2 w.heap.size 3 (.bool a) ∧ CF u2 w.heap.size 4 (.bool s) ∧ CF u2 w.heap.size 5 (.bool g) ∧ CF u2 (w.heap.size + 1) 0 (.int .i64 0) ∧ CF u2 (w.heap.size + 1) 1 (.int .i64 0) ∧ CF u2 (w.heap.size + 1) 2 (.bool false) ∧ CF u2 (w.heap.size + 1) 3 (.bool false) ∧ CF u2 (w.heap.size + 1) 4 (.bool false) ∧ CF u2 (w.heap.size + 1) 5 (.bool false) := by
        refine ⟨⟨?_, ?_⟩, ⟨?_, ?_⟩, ⟨?_, ?_⟩, ⟨?_, ?_⟩, ⟨?_, ?_⟩, ⟨?_, ?_⟩, ⟨?_, ?_⟩, ⟨?_, ?_⟩, ⟨?_, ?_⟩, ⟨?_, ?_⟩, ⟨?_, ?_⟩, ⟨?_, ?_⟩⟩ <;> first | (refine kc hb ?_ <;> (go_simp; first | done | rfl)) | (refine kfz hb ?_ ?_ <;> first | (go_size; done) | (go_simp; done))
    have hz := hb.size
    (try simp only [World.size_alloc, World.size_setCell, World.size_drew] at hz)
    have L : w.heap.size < u2.heap.size ∧ w.heap.size + 1 < u2.heap.size := by omega
    have hB' : Below w.heap.size w u2 := by
        refine kb ?_ hb
        go_grown
    clear ht_0 ft_0 ht_1 ft_1 ht_2 ft_2 ht_3 ft_3 ht_4 ft_4 ht_5 ft_5 hz_0 fz_0 hz_1 fz_1 hz_2 fz_2 hz_3 fz_3 hz_4 fz_4 hz_5 fz_5 hlt hlz hnt0 hnt1 hkt1 hnt2 hkt2 hnz0 hkz1 hB hsz
    clear hb hz
    obtain ⟨⟨ht_0, ft_0⟩, ⟨ht_1, ft_1⟩, ⟨ht_2, ft_2⟩, ⟨ht_3, ft_3⟩, ⟨ht_4, ft_4⟩, ⟨ht_5, ft_5⟩, ⟨hz_0, fz_0⟩, ⟨hz_1, fz_1⟩, ⟨hz_2, fz_2⟩, ⟨hz_3, fz_3⟩, ⟨hz_4, fz_4⟩, ⟨hz_5, fz_5⟩⟩ := T
    obtain ⟨hlt, hlz⟩ := L
    obtain ⟨hnt0, hnt1, hkt1, hnt2, hkt2⟩ := ap0 hlt
    obtain ⟨hnz0, hkz1⟩ := ap1 hlz
    have hB := hB'; clear hB'
    have hsz := hB.size
    go_wp2
    (try rw [Into.ret])
    refine bodyPost_ret (v := .tuple #[.agg #[.int .i64 0, .int .i64 0, .bool false, .bool false, .bool false, .bool false], .int .i64 10]) (by simp [results, Tryz.results69, go_sem, hz_0, hz_1, hz_2, hz_3, hz_4, hz_5] <;> first | done | rfl) rfl ⟨rfl, by go_grown⟩
set_option maxRecDepth 100000 in
set_option maxHeartbeats 2000000 in
theorem afterp_c (x : Tm) (n : Int) (hm : x.May) (h0 : 0 ≤ n) (hn : n ≤ 1099511627776) (w : World) : Calls Tryz.prog 69 #[.agg #[.int .i64 x.l, .int .i64 x.c, .bool x.r, .bool x.a, .bool x.s, .bool x.g], .int .i64 n] w
    fun e w' => e = .returned (.tuple #[.agg #[.int .i64 (afterT x n).l, .int .i64 (afterT x n).c, .bool (afterT x n).r, .bool (afterT x n).a, .bool (afterT x n).s, .bool (afterT x n).g], .int .i64 0]) ∧ Below w.heap.size w w' := by
  have HM := Lib.hid hm
  obtain ⟨l, c, r, a, s, g⟩ := x
  obtain ⟨h1, h2⟩ := hm
  dsimp only at h1 h2 ⊢
  have HL := Lib.hid (fun W => maybe_c l W)
  have HC := Lib.hid (fun W => maybe_c c W)
  rw [(mayI_iff l).2 h1] at HL
  rw [(mayI_iff c).2 h2] at HC
  have d1 : decide (n < 0) = false := by simpa using h0
  have d2 : decide (1099511627776 < n) = false := by simpa using hn
  cases r
  · have _k := trivial
    rw [afterT_still _ _ rfl]
    dsimp only
    go_enter Tryz.func69, Tryz.ntmps69
    go_wp2_with fail
    refine wp_scope_hid 0 fun C hC => ?_
    go_wp2_with fail
    ((with_reducible refine (HL.out _).mono ?_); rintro _ u1 ⟨rfl, hb⟩)
    have T : CF u1 w.heap.size 0 (.int .i64 l) ∧ CF u1 w.heap.size 1 (.int .i64 c) ∧ CF u1 w.heap.size 2 (.bool false) ∧ CF u1 w.heap.size 3 (.bool a) ∧ CF u1 w.heap.size 4 (.bool s) ∧ CF u1 w.heap.size 5 (.bool g) ∧ CF u1 (w.heap.size + 1) 0 (.int .i64 0) ∧ CF u1 (w.heap.size + 1) 1 (.int .i64 0) ∧ CF u1 (w.heap.size + 1) 2 (.bool false) ∧ CF u1 (w.heap.size + 1) 3 (.bool false) ∧ CF u1 (w.heap.size + 1) 4 (.bool false) ∧ CF u1 (w.heap.size + 1) 5 (.bool false) := by
        refine ⟨⟨?_, ?_⟩, ⟨?_, ?_⟩, ⟨?_, ?_⟩, ⟨?_, ?_⟩, ⟨?_, ?_⟩, ⟨?_, ?_⟩, ⟨?_, ?_⟩, ⟨?_, ?_⟩, ⟨?_, ?_⟩, ⟨?_, ?_⟩, ⟨?_, ?_⟩, ⟨?_, ?_⟩⟩ <;> first | (refine kc hb ?_ <;> (go_simp; first | done | rfl)) | (refine kfz hb ?_ ?_ <;> first | (go_size; done) | (go_simp; done))
    have hz := hb.size
    (try simp only [World.size_alloc, World.size_setCell, World.size_drew] at hz)
    have L : w.heap.size < u1.heap.size ∧ w.heap.size + 1 < u1.heap.size := by omega
    have hB' : Below w.heap.size w u1 := by
        refine kb ?_ hb
        go_grown
    clear hb hz
    obtain ⟨⟨ht_0, ft_0⟩, ⟨ht_1, ft_1⟩, ⟨ht_2, ft_2⟩, ⟨ht_3, ft_3⟩, ⟨ht_4, ft_4⟩, ⟨ht_5, ft_5⟩, ⟨hz_0, fz_0⟩, ⟨hz_1, fz_1⟩, ⟨hz_2, fz_2⟩, ⟨hz_3, fz_3⟩, ⟨hz_4, fz_4⟩, ⟨hz_5, fz_5⟩⟩ := T
    obtain ⟨hlt, hlz⟩ := L
    obtain ⟨hnt0, hnt1, hkt1, hnt2, hkt2⟩ := ap0 hlt
    obtain ⟨hnz0, hkz1⟩ := ap1 hlz
    have hB := hB'; clear hB'
    have hsz := hB.size
    go_wp2_with fail
    ((with_reducible refine (HC.out _).mono ?_); rintro _ u2 ⟨rfl, hb⟩)
    have T : CF u2 w.heap.size 0 (.int .i64 l) ∧ CF u2 w.heap.size 1 (.int .i64 c) ∧ CF u2 w.heap.size 2 (.bool false) ∧ CF u2 w.heap.size 3 (.bool a) ∧ CF u2 w.heap.size 4 (.bool s) ∧ CF u2 w.heap.size 5 (.bool g) ∧ CF u2 (w.heap.size + 1) 0 (.int .i64 0) ∧ CF u2 (w.heap.size + 1) 1 (.int .i64 0) ∧ CF u2 (w.heap.size + 1) 2 (.bool false) ∧ CF u2 (w.heap.size + 1) 3 (.bool false) ∧ CF u2 (w.heap.size + 1) 4 (.bool false) ∧ CF u2 (w.heap.size + 1) 5 (.bool false) := by
        refine ⟨⟨?_, ?_⟩, ⟨?_, ?_⟩, ⟨?_, ?_⟩, ⟨?_, ?_⟩, ⟨?_, ?_⟩, ⟨?_, ?_⟩, ⟨?_, ?_⟩, ⟨?_, ?_⟩, ⟨?_, ?_⟩, ⟨?_, ?_⟩, ⟨?_, ?_⟩, ⟨?_, ?_⟩⟩ <;> first | (refine kc hb ?_ <;> (go_simp; first | done | rfl)) | (refine kfz hb ?_ ?_ <;> first | (go_size; done) | (go_simp; done))
    have hz := hb.size
    (try simp only [World.size_alloc, World.size_setCell, World.size_drew] at hz)
    have L : w.heap.size < u2.heap.size ∧ w.heap.size + 1 < u2.heap.size := by omega
    have hB' : Below w.heap.size w u2 := by
        refine kb ?_ hb
        go_grown
    clear ht_0 ft_0 ht_1 ft_1 ht_2 ft_2 ht_3 ft_3 ht_4 ft_4 ht_5 ft_5 hz_0 fz_0 hz_1 fz_1 hz_2 fz_2 hz_3 fz_3 hz_4 fz_4 hz_5 fz_5 hlt hlz hnt0 hnt1 hkt1 hnt2 hkt2 hnz0 hkz1 hB hsz
    clear hb hz
    obtain ⟨⟨ht_0, ft_0⟩, ⟨ht_1, ft_1⟩, ⟨ht_2, ft_2⟩, ⟨ht_3, ft_3⟩, ⟨ht_4, ft_4⟩, ⟨ht_5, ft_5⟩, ⟨hz_0, fz_0⟩, ⟨hz_1, fz_1⟩, ⟨hz_2, fz_2⟩, ⟨hz_3, fz_3⟩, ⟨hz_4, fz_4⟩, ⟨hz_5, fz_5⟩⟩ := T
    obtain ⟨hlt, hlz⟩ := L
    obtain ⟨hnt0, hnt1, hkt1, hnt2, hkt2⟩ := ap0 hlt
    obtain ⟨hnz0, hkz1⟩ := ap1 hlz
    have hB := hB'; clear hB'
    have hsz := hB.size
    go_wp2_with fail
    apply wp_label
    go_wp2
    rw [Into.ret]
    refine bodyPost_ret (v := .tuple #[.agg #[.int .i64 l, .int .i64 c, .bool false, .bool a, .bool s, .bool g], .int .i64 0]) (by simp [results, Tryz.results69, go_sem, hz_0, hz_1, hz_2, hz_3, hz_4, hz_5] <;> first | done | rfl) rfl ⟨rfl, by go_grown⟩
  by_cases hc : n ≤ c
  · have _k := trivial
    rw [afterT_down _ n rfl h0 hc]
    dsimp only
    have d3 : decide (c < n) = false := by simpa using hc
    go_enter Tryz.func69, Tryz.ntmps69
    go_wp2_with fail
    refine wp_scope_hid 0 fun C hC => ?_
    go_wp2_with fail
    ((with_reducible refine (HL.out _).mono ?_); rintro _ u1 ⟨rfl, hb⟩)
    have T : CF u1 w.heap.size 0 (.int .i64 l) ∧ CF u1 w.heap.size 1 (.int .i64 c) ∧ CF u1 w.heap.size 2 (.bool true) ∧ CF u1 w.heap.size 3 (.bool a) ∧ CF u1 w.heap.size 4 (.bool s) ∧ CF u1 w.heap.size 5 (.bool g) ∧ CF u1 (w.heap.size + 1) 0 (.int .i64 0) ∧ CF u1 (w.heap.size + 1) 1 (.int .i64 0) ∧ CF u1 (w.heap.size + 1) 2 (.bool false) ∧ CF u1 (w.heap.size + 1) 3 (.bool false) ∧ CF u1 (w.heap.size + 1) 4 (.bool false) ∧ CF u1 (w.heap.size + 1) 5 (.bool false) := by
        refine ⟨⟨?_, ?_⟩, ⟨?_, ?_⟩, ⟨?_, ?_⟩, ⟨?_, ?_⟩, ⟨?_, ?_⟩, ⟨?_, ?_⟩, ⟨?_, ?_⟩, ⟨?_, ?_⟩, ⟨?_, ?_⟩, ⟨?_, ?_⟩, ⟨?_, ?_⟩, ⟨?_, ?_⟩⟩ <;> first | (refine kc hb ?_ <;> (go_simp; first | done | rfl)) | (refine kfz hb ?_ ?_ <;> first | (go_size; done) | (go_simp; done))
    have hz := hb.size
    (try simp only [World.size_alloc, World.size_setCell, World.size_drew] at hz)
    have L : w.heap.size < u1.heap.size ∧ w.heap.size + 1 < u1.heap.size := by omega
    have hB' : Below w.heap.size w u1 := by
        refine kb ?_ hb
        go_grown
    clear hb hz
    obtain ⟨⟨ht_0, ft_0⟩, ⟨ht_1, ft_1⟩, ⟨ht_2, ft_2⟩, ⟨ht_3, ft_3⟩, ⟨ht_4, ft_4⟩, ⟨ht_5, ft_5⟩, ⟨hz_0, fz_0⟩, ⟨hz_1, fz_1⟩, ⟨hz_2, fz_2⟩, ⟨hz_3, fz_3⟩, ⟨hz_4, fz_4⟩, ⟨hz_5, fz_5⟩⟩ := T
    obtain ⟨hlt, hlz⟩ := L
    obtain ⟨hnt0, hnt1, hkt1, hnt2, hkt2⟩ := ap0 hlt
    obtain ⟨hnz0, hkz1⟩ := ap1 hlz
    have hB := hB'; clear hB'
    have hsz := hB.size
    go_wp2_with fail
    ((with_reducible refine (HC.out _).mono ?_); rintro _ u2 ⟨rfl, hb⟩)
    have T : CF u2 w.heap.size 0 (.int .i64 l) ∧ CF u2 w.heap.size 1 (.int .i64 c) ∧ CF u2 w.heap.size 2 (.bool true) ∧ CF u2 w.heap.size 3 (.bool a) ∧ CF u2 w.heap.size 4 (.bool s) ∧ CF u2 w.heap.size 5 (.bool g) ∧ CF u2 (w.heap.size + 1) 0 (.int .i64 0) ∧ CF u2 (w.heap.size + 1) 1 (.int .i64 0) ∧ CF u2 (w.heap.size + 1) 2 (.bool false) ∧ CF u2 (w.heap.size + 1) 3 (.bool false) ∧ CF u2 (w.heap.size + 1) 4 (.bool false) ∧ CF u2 (w.heap.size + 1) 5 (.bool false) := by
        refine ⟨⟨?_, ?_⟩, ⟨?_, ?_⟩, ⟨?_, ?_⟩, ⟨?_, ?_⟩, ⟨?_, ?_⟩, ⟨?_, ?_⟩, ⟨?_, ?_⟩, ⟨?_, ?_⟩, ⟨?_, ?_⟩, ⟨?_, ?_⟩, ⟨?_, ?_⟩, ⟨?_, ?_⟩⟩ <;> first | (refine kc hb ?_ <;> (go_simp; first | done | rfl)) | (refine kfz hb ?_ ?_ <;> first | (go_size; done) | (go_simp; done))
    have hz := hb.size
    (try simp only [World.size_alloc, World.size_setCell, World.size_drew] at hz)
    have L : w.heap.size < u2.heap.size ∧ w.heap.size + 1 < u2.heap.size := by omega
    have hB' : Below w.heap.size w u2 := by
        refine kb ?_ hb
        go_grown
    clear ht_0 ft_0 ht_1 ft_1 ht_2 ft_2 ht_3 ft_3 ht_4 ft_4 ht_5 ft_5 hz_0 fz_0 hz_1 fz_1 hz_2 fz_2 hz_3 fz_3 hz_4 fz_4 hz_5 fz_5 hlt hlz hnt0 hnt1 hkt1 hnt2 hkt2 hnz0 hkz1 hB hsz
    clear hb hz
    obtain ⟨⟨ht_0, ft_0⟩, ⟨ht_1, ft_1⟩, ⟨ht_2, ft_2⟩, ⟨ht_3, ft_3⟩, ⟨ht_4, ft_4⟩, ⟨ht_5, ft_5⟩, ⟨hz_0, fz_0⟩, ⟨hz_1, fz_1⟩, ⟨hz_2, fz_2⟩, ⟨hz_3, fz_3⟩, ⟨hz_4, fz_4⟩, ⟨hz_5, fz_5⟩⟩ := T
    obtain ⟨hlt, hlz⟩ := L
    obtain ⟨hnt0, hnt1, hkt1, hnt2, hkt2⟩ := ap0 hlt
    obtain ⟨hnz0, hkz1⟩ := ap1 hlz
    have hB := hB'; clear hB'
    have hsz := hB.size
    go_wp2_with fail
    apply wp_label
    go_wp2
    rw [Into.ret]
    refine bodyPost_ret (v := .tuple #[.agg #[.int .i64 l, .int .i64 (c - n), .bool true, .bool a, .bool s, .bool g], .int .i64 0]) (by simp [results, Tryz.results69, go_sem, hz_0, hz_1, hz_2, hz_3, hz_4, hz_5] <;> first | done | rfl) rfl ⟨rfl, by go_grown⟩
  have hM0 : 0 ≤ (n - (c + 1)) % (l + 1) := Int.emod_nonneg _ (by omega)
  have hM1 : (n - (c + 1)) % (l + 1) < l + 1 := Int.emod_lt_of_pos _ (by omega)
  rw [afterT_past _ n rfl HM.out (by dsimp only; omega)]
  dsimp only
  have d3 : decide (c < n) = true := by simpa using hc
  have hcn : c < n := by omega
  obtain ⟨M, hM⟩ : ∃ M, (n - (c + 1)) % (l + 1) = M := ⟨_, rfl⟩
  rw [hM] at hM0 hM1 ⊢
  cases a
  · have _k := trivial
    have e : ringT ⟨l, c, true, false, s, g⟩ = ⟨l, 0, false, false, s, true⟩ := rfl
    rw [e, afterT_still _ _ rfl]
    dsimp only
    go_enter Tryz.func69, Tryz.ntmps69
    go_wp2_with fail
    refine wp_scope_hid 1 fun C hC => ?_
    go_wp2_with fail
    ((with_reducible refine (HL.out _).mono ?_); rintro _ u1 ⟨rfl, hb⟩)
    have T : CF u1 w.heap.size 0 (.int .i64 l) ∧ CF u1 w.heap.size 1 (.int .i64 c) ∧ CF u1 w.heap.size 2 (.bool true) ∧ CF u1 w.heap.size 3 (.bool false) ∧ CF u1 w.heap.size 4 (.bool s) ∧ CF u1 w.heap.size 5 (.bool g) ∧ CF u1 (w.heap.size + 1) 0 (.int .i64 0) ∧ CF u1 (w.heap.size + 1) 1 (.int .i64 0) ∧ CF u1 (w.heap.size + 1) 2 (.bool false) ∧ CF u1 (w.heap.size + 1) 3 (.bool false) ∧ CF u1 (w.heap.size + 1) 4 (.bool false) ∧ CF u1 (w.heap.size + 1) 5 (.bool false) := by
        refine ⟨⟨?_, ?_⟩, ⟨?_, ?_⟩, ⟨?_, ?_⟩, ⟨?_, ?_⟩, ⟨?_, ?_⟩, ⟨?_, ?_⟩, ⟨?_, ?_⟩, ⟨?_, ?_⟩, ⟨?_, ?_⟩, ⟨?_, ?_⟩, ⟨?_, ?_⟩, ⟨?_, ?_⟩⟩ <;> first | (refine kc hb ?_ <;> (go_simp; first | done | rfl)) | (refine kfz hb ?_ ?_ <;> first | (go_size; done) | (go_simp; done))
    have hz := hb.size
    (try simp only [World.size_alloc, World.size_setCell, World.size_drew] at hz)
    have L : w.heap.size < u1.heap.size ∧ w.heap.size + 1 < u1.heap.size := by omega
    have hB' : Below w.heap.size w u1 := by
        refine kb ?_ hb
        go_grown
    clear hb hz
    obtain ⟨⟨ht_0, ft_0⟩, ⟨ht_1, ft_1⟩, ⟨ht_2, ft_2⟩, ⟨ht_3, ft_3⟩, ⟨ht_4, ft_4⟩, ⟨ht_5, ft_5⟩, ⟨hz_0, fz_0⟩, ⟨hz_1, fz_1⟩, ⟨hz_2, fz_2⟩, ⟨hz_3, fz_3⟩, ⟨hz_4, fz_4⟩, ⟨hz_5, fz_5⟩⟩ := T
    obtain ⟨hlt, hlz⟩ := L
    obtain ⟨hnt0, hnt1, hkt1, hnt2, hkt2⟩ := ap0 hlt
    obtain ⟨hnz0, hkz1⟩ := ap1 hlz
    have hB := hB'; clear hB'
    have hsz := hB.size
    go_wp2_with fail
    ((with_reducible refine (HC.out _).mono ?_); rintro _ u2 ⟨rfl, hb⟩)
    have T : CF u2 w.heap.size 0 (.int .i64 l) ∧ CF u2 w.heap.size 1 (.int .i64 c) ∧ CF u2 w.heap.size 2 (.bool true) ∧ CF u2 w.heap.size 3 (.bool false) ∧ CF u2 w.heap.size 4 (.bool s) ∧ CF u2 w.heap.size 5 (.bool g) ∧ CF u2 (w.heap.size + 1) 0 (.int .i64 0) ∧ CF u2 (w.heap.size + 1) 1 (.int .i64 0) ∧ CF u2 (w.heap.size + 1) 2 (.bool false) ∧ CF u2 (w.heap.size + 1) 3 (.bool false) ∧ CF u2 (w.heap.size + 1) 4 (.bool false) ∧ CF u2 (w.heap.size + 1) 5 (.bool false) := by
        refine ⟨⟨?_, ?_⟩, ⟨?_, ?_⟩, ⟨?_, ?_⟩, ⟨?_, ?_⟩, ⟨?_, ?_⟩, ⟨?_, ?_⟩, ⟨?_, ?_⟩, ⟨?_, ?_⟩, ⟨?_, ?_⟩, ⟨?_, ?_⟩, ⟨?_, ?_⟩, ⟨?_, ?_⟩⟩ <;> first | (refine kc hb ?_ <;> (go_simp; first | done | rfl)) | (refine kfz hb ?_ ?_ <;> first | (go_size; done) | (go_simp; done))
    have hz := hb.size
    (try simp only [World.size_alloc, World.size_setCell, World.size_drew] at hz)
    have L : w.heap.size < u2.heap.size ∧ w.heap.size + 1 < u2.heap.size := by omega
    have hB' : Below w.heap.size w u2 := by
        refine kb ?_ hb
        go_grown
    clear ht_0 ft_0 ht_1 ft_1 ht_2 ft_2 ht_3 ft_3 ht_4 ft_4 ht_5 ft_5 hz_0 fz_0 hz_1 fz_1 hz_2 fz_2 hz_3 fz_3 hz_4 fz_4 hz_5 fz_5 hlt hlz hnt0 hnt1 hkt1 hnt2 hkt2 hnz0 hkz1 hB hsz
    clear hb hz
    obtain ⟨⟨ht_0, ft_0⟩, ⟨ht_1, ft_1⟩, ⟨ht_2, ft_2⟩, ⟨ht_3, ft_3⟩, ⟨ht_4, ft_4⟩, ⟨ht_5, ft_5⟩, ⟨hz_0, fz_0⟩, ⟨hz_1, fz_1⟩, ⟨hz_2, fz_2⟩, ⟨hz_3, fz_3⟩, ⟨hz_4, fz_4⟩, ⟨hz_5, fz_5⟩⟩ := T
    obtain ⟨hlt, hlz⟩ := L
    obtain ⟨hnt0, hnt1, hkt1, hnt2, hkt2⟩ := ap0 hlt
    obtain ⟨hnz0, hkz1⟩ := ap1 hlz
    have hB := hB'; clear hB'
    have hsz := hB.size
    go_wp2_with fail
    apply wp_label
    go_wp2_with fail
    have HT := Lib.hid (tickp_x w.heap.size 0 ⟨l, 0, true, false, s, g⟩ ⟨h1, by dsimp only; omega⟩)
    ((with_reducible refine (HT.out _ (Tw.mk0 (by go_simp) (by go_simp) (by go_simp) (by go_simp) (by go_simp) (by go_simp) (by go_simp) (by go_simp) (by go_simp) (by go_simp) (by go_simp) (by go_simp))).mono ?_); rintro _ u3 ⟨rfl, hb, hT⟩)
    have hs_u3 := Lib.hid hb
    have T : CF u3 (w.heap.size + 1) 0 (.int .i64 0) ∧ CF u3 (w.heap.size + 1) 1 (.int .i64 0) ∧ CF u3 (w.heap.size + 1) 2 (.bool false) ∧ CF u3 (w.heap.size + 1) 3 (.bool false) ∧ CF u3 (w.heap.size + 1) 4 (.bool false) ∧ CF u3 (w.heap.size + 1) 5 (.bool false) := by
        refine ⟨⟨?_, ?_⟩, ⟨?_, ?_⟩, ⟨?_, ?_⟩, ⟨?_, ?_⟩, ⟨?_, ?_⟩, ⟨?_, ?_⟩⟩ <;> first | (refine kg hb ?_ ?_; (· omega); (· (go_simp; first | done | rfl))) | (refine kgf hb ?_ ?_ ?_; (· omega); (· first | go_size | omega | (simp only [World.size_alloc, World.size_setCell, World.size_drew]; omega)); (· (go_simp; first | done | rfl)))
    have hz := hb.size
    (try simp only [World.size_alloc, World.size_setCell, World.size_drew] at hz)
    have L : w.heap.size + 1 < u3.heap.size := by omega
    have hB' : Below w.heap.size w u3 := by
        refine below_grown2 ?_ hb (by omega)
        go_grown
    clear ht_0 ft_0 ht_1 ft_1 ht_2 ft_2 ht_3 ft_3 ht_4 ft_4 ht_5 ft_5 hz_0 fz_0 hz_1 fz_1 hz_2 fz_2 hz_3 fz_3 hz_4 fz_4 hz_5 fz_5 hlt hlz hnt0 hnt1 hkt1 hnt2 hkt2 hnz0 hkz1 hB hsz
    clear hb hz
    obtain ⟨⟨hz_0, fz_0⟩, ⟨hz_1, fz_1⟩, ⟨hz_2, fz_2⟩, ⟨hz_3, fz_3⟩, ⟨hz_4, fz_4⟩, ⟨hz_5, fz_5⟩⟩ := T
    have hlz := L; clear L
    obtain ⟨hnz0, hnz1, hkz1, hnz2, hkz2⟩ := ap1f hlz
    have hB := hB'; clear hB'
    have hsz := hB.size
    rw [show tickT ⟨l, 0, true, false, s, g⟩ = ⟨l, 0, false, false, s, true⟩ from rfl] at hT
    have hlt3 := hT.lt
    obtain ⟨t0, t1, t2, t3, t4, t5⟩ := hT.at0
    dsimp only at t0 t1 t2 t3 t4 t5
    clear hT
    go_wp2_with fail
    refine wp_goto_hid hC rfl ?_
    go_wp2
    (try rw [Into.ret])
    refine bodyPost_ret (v := .tuple #[.agg #[.int .i64 l, .int .i64 0, .bool false, .bool false, .bool s, .bool true], .int .i64 0]) (by simp [results, Tryz.results69, go_sem, hz_0, hz_1, hz_2, hz_3, hz_4, hz_5] <;> first | done | rfl) rfl ⟨rfl, by go_grown⟩
  · have _k := trivial
    have e : ringT ⟨l, c, true, true, s, g⟩ = ⟨l, l, true, true, s, true⟩ := rfl
    rw [e, afterT_down _ M rfl hM0 (by dsimp only; omega)]
    dsimp only
    have d4 : decide (l < M) = false := by simp; omega
    have hlM : ¬ l < M := by omega
    go_enter Tryz.func69, Tryz.ntmps69
    go_wp2_with fail
    refine wp_scope_hid 1 fun C hC => ?_
    go_wp2_with fail
    ((with_reducible refine (HL.out _).mono ?_); rintro _ u1 ⟨rfl, hb⟩)
    have T : CF u1 w.heap.size 0 (.int .i64 l) ∧ CF u1 w.heap.size 1 (.int .i64 c) ∧ CF u1 w.heap.size 2 (.bool true) ∧ CF u1 w.heap.size 3 (.bool true) ∧ CF u1 w.heap.size 4 (.bool s) ∧ CF u1 w.heap.size 5 (.bool g) ∧ CF u1 (w.heap.size + 1) 0 (.int .i64 0) ∧ CF u1 (w.heap.size + 1) 1 (.int .i64 0) ∧ CF u1 (w.heap.size + 1) 2 (.bool false) ∧ CF u1 (w.heap.size + 1) 3 (.bool false) ∧ CF u1 (w.heap.size + 1) 4 (.bool false) ∧ CF u1 (w.heap.size + 1) 5 (.bool false) := by
        refine ⟨⟨?_, ?_⟩, ⟨?_, ?_⟩, ⟨?_, ?_⟩, ⟨?_, ?_⟩, ⟨?_, ?_⟩, ⟨?_, ?_⟩, ⟨?_, ?_⟩, ⟨?_, ?_⟩, ⟨?_, ?_⟩, ⟨?_, ?_⟩, ⟨?_, ?_⟩, ⟨?_, ?_⟩⟩ <;> first | (refine kc hb ?_ <;> (go_simp; first | done | rfl)) | (refine kfz hb ?_ ?_ <;> first | (go_size; done) | (go_simp; done))
    have hz := hb.size
    (try simp only [World.size_alloc, World.size_setCell, World.size_drew] at hz)
    have L : w.heap.size < u1.heap.size ∧ w.heap.size + 1 < u1.heap.size := by omega
    have hB' : Below w.heap.size w u1 := by
        refine kb ?_ hb
        go_grown
    clear hb hz
    obtain ⟨⟨ht_0, ft_0⟩, ⟨ht_1, ft_1⟩, ⟨ht_2, ft_2⟩, ⟨ht_3, ft_3⟩, ⟨ht_4, ft_4⟩, ⟨ht_5, ft_5⟩, ⟨hz_0, fz_0⟩, ⟨hz_1, fz_1⟩, ⟨hz_2, fz_2⟩, ⟨hz_3, fz_3⟩, ⟨hz_4, fz_4⟩, ⟨hz_5, fz_5⟩⟩ := T
    obtain ⟨hlt, hlz⟩ := L
    obtain ⟨hnt0, hnt1, hkt1, hnt2, hkt2⟩ := ap0 hlt
    obtain ⟨hnz0, hkz1⟩ := ap1 hlz
    have hB := hB'; clear hB'
    have hsz := hB.size
    go_wp2_with fail
    ((with_reducible refine (HC.out _).mono ?_); rintro _ u2 ⟨rfl, hb⟩)
    have T : CF u2 w.heap.size 0 (.int .i64 l) ∧ CF u2 w.heap.size 1 (.int .i64 c) ∧ CF u2 w.heap.size 2 (.bool true) ∧ CF u2 w.heap.size 3 (.bool true) ∧ CF u2 w.heap.size 4 (.bool s) ∧ CF u2 w.heap.size 5 (.bool g) ∧ CF u2 (w.heap.size + 1) 0 (.int .i64 0) ∧ CF u2 (w.heap.size + 1) 1 (.int .i64 0) ∧ CF u2 (w.heap.size + 1) 2 (.bool false) ∧ CF u2 (w.heap.size + 1) 3 (.bool false) ∧ CF u2 (w.heap.size + 1) 4 (.bool false) ∧ CF u2 (w.heap.size + 1) 5 (.bool false) := by
        refine ⟨⟨?_, ?_⟩, ⟨?_, ?_⟩, ⟨?_, ?_⟩, ⟨?_, ?_⟩, ⟨?_, ?_⟩, ⟨?_, ?_⟩, ⟨?_, ?_⟩, ⟨?_, ?_⟩, ⟨?_, ?_⟩, ⟨?_, ?_⟩, ⟨?_, ?_⟩, ⟨?_, ?_⟩⟩ <;> first | (refine kc hb ?_ <;> (go_simp; first | done | rfl)) | (refine kfz hb ?_ ?_ <;> first | (go_size; done) | (go_simp; done))
    have hz := hb.size
    (try simp only [World.size_alloc, World.size_setCell, World.size_drew] at hz)
    have L : w.heap.size < u2.heap.size ∧ w.heap.size + 1 < u2.heap.size := by omega
    have hB' : Below w.heap.size w u2 := by
        refine kb ?_ hb
        go_grown
    clear ht_0 ft_0 ht_1 ft_1 ht_2 ft_2 ht_3 ft_3 ht_4 ft_4 ht_5 ft_5 hz_0 fz_0 hz_1 fz_1 hz_2 fz_2 hz_3 fz_3 hz_4 fz_4 hz_5 fz_5 hlt hlz hnt0 hnt1 hkt1 hnt2 hkt2 hnz0 hkz1 hB hsz
    clear hb hz
    obtain ⟨⟨ht_0, ft_0⟩, ⟨ht_1, ft_1⟩, ⟨ht_2, ft_2⟩, ⟨ht_3, ft_3⟩, ⟨ht_4, ft_4⟩, ⟨ht_5, ft_5⟩, ⟨hz_0, fz_0⟩, ⟨hz_1, fz_1⟩, ⟨hz_2, fz_2⟩, ⟨hz_3, fz_3⟩, ⟨hz_4, fz_4⟩, ⟨hz_5, fz_5⟩⟩ := T
    obtain ⟨hlt, hlz⟩ := L
    obtain ⟨hnt0, hnt1, hkt1, hnt2, hkt2⟩ := ap0 hlt
    obtain ⟨hnz0, hkz1⟩ := ap1 hlz
    have hB := hB'; clear hB'
    have hsz := hB.size
    go_wp2_with fail
    apply wp_label
    go_wp2_with fail
    have HT := Lib.hid (tickp_x w.heap.size 0 ⟨l, 0, true, true, s, g⟩ ⟨h1, by dsimp only; omega⟩)
    ((with_reducible refine (HT.out _ (Tw.mk0 (by go_simp) (by go_simp) (by go_simp) (by go_simp) (by go_simp) (by go_simp) (by go_simp) (by go_simp) (by go_simp) (by go_simp) (by go_simp) (by go_simp))).mono ?_); rintro _ u3 ⟨rfl, hb, hT⟩)
    have hs_u3 := Lib.hid hb
    have T : CF u3 (w.heap.size + 1) 0 (.int .i64 0) ∧ CF u3 (w.heap.size + 1) 1 (.int .i64 0) ∧ CF u3 (w.heap.size + 1) 2 (.bool false) ∧ CF u3 (w.heap.size + 1) 3 (.bool false) ∧ CF u3 (w.heap.size + 1) 4 (.bool false) ∧ CF u3 (w.heap.size + 1) 5 (.bool false) := by
        refine ⟨⟨?_, ?_⟩, ⟨?_, ?_⟩, ⟨?_, ?_⟩, ⟨?_, ?_⟩, ⟨?_, ?_⟩, ⟨?_, ?_⟩⟩ <;> first | (refine kg hb ?_ ?_; (· omega); (· (go_simp; first | done | rfl))) | (refine kgf hb ?_ ?_ ?_; (· omega); (· first | go_size | omega | (simp only [World.size_alloc, World.size_setCell, World.size_drew]; omega)); (· (go_simp; first | done | rfl)))
    have hz := hb.size
    (try simp only [World.size_alloc, World.size_setCell, World.size_drew] at hz)
    have L : w.heap.size + 1 < u3.heap.size := by omega
    have hB' : Below w.heap.size w u3 := by
        refine below_grown2 ?_ hb (by omega)
        go_grown
    clear ht_0 ft_0 ht_1 ft_1 ht_2 ft_2 ht_3 ft_3 ht_4 ft_4 ht_5 ft_5 hz_0 fz_0 hz_1 fz_1 hz_2 fz_2 hz_3 fz_3 hz_4 fz_4 hz_5 fz_5 hlt hlz hnt0 hnt1 hkt1 hnt2 hkt2 hnz0 hkz1 hB hsz
    clear hb hz
    obtain ⟨⟨hz_0, fz_0⟩, ⟨hz_1, fz_1⟩, ⟨hz_2, fz_2⟩, ⟨hz_3, fz_3⟩, ⟨hz_4, fz_4⟩, ⟨hz_5, fz_5⟩⟩ := T
    have hlz := L; clear L
    obtain ⟨hnz0, hnz1, hkz1, hnz2, hkz2⟩ := ap1f hlz
    have hB := hB'; clear hB'
    have hsz := hB.size
    rw [show tickT ⟨l, 0, true, true, s, g⟩ = ⟨l, l, true, true, s, true⟩ from rfl] at hT
    have hlt3 := hT.lt
    obtain ⟨t0, t1, t2, t3, t4, t5⟩ := hT.at0
    obtain ⟨g0, g1, g2, g3, g4, g5⟩ := hT.free0
    dsimp only at t0 t1 t2 t3 t4 t5
    clear hT
    go_wp2_with fail
    refine wp_goto_hid hC rfl ?_
    go_wp2
    (try rw [Into.ret])
    refine bodyPost_ret (v := .tuple #[.agg #[.int .i64 l, .int .i64 (l - M), .bool true, .bool true, .bool s, .bool true], .int .i64 0]) (by simp [results, Tryz.results69, go_sem, hz_0, hz_1, hz_2, hz_3, hz_4, hz_5] <;> first | done | rfl) rfl ⟨rfl, by go_grown⟩
end Go.Proofs.YtcnejgilmciljaaGreatDoor
set_option linter.unusedSimpArgs false
set_option linter.unusedVariables false
namespace Go.Proofs.YtcnejgilmciljaaGreatDoor
open Go.RowKit Go.PlainAid

set_option maxRecDepth 100000 in
theorem bnew_nil (p q r : Option Addr) (T : Tm) (w : World) (h : p = none ∨ q = none ∨ r = none) : Calls Tryz.prog 36 #[.pointer p, tmVal T, .pointer q, .pointer r] w fun e w' => e = .returned (.tuple #[.pointer none, .int .i64 2]) ∧ Below w.heap.size w w' := by
  unfold tmVal
  have h2 : p = none ∨ (∃ a, p = some a) ∧ q = none ∨ (∃ a, p = some a) ∧ (∃ a, q = some a) ∧ r = none := by
    cases p with
    | none => exact .inl rfl
    | some a => cases q with
      | none => exact .inr (.inl ⟨⟨a, rfl⟩, rfl⟩)
      | some b => refine .inr (.inr ⟨⟨a, rfl⟩, ⟨b, rfl⟩, ?_⟩); simpa using h
  clear h
  rcases h2 with rfl | ⟨⟨a, rfl⟩, rfl⟩ | ⟨⟨a, rfl⟩, ⟨b, rfl⟩, rfl⟩
  all_goals
    go_enter Tryz.func36, Tryz.ntmps36
    go_wp2
    go_ret2
    exact ⟨rfl, by go_grown⟩
set_option maxRecDepth 100000 in
set_option maxHeartbeats 4000000 in
theorem bnew_bad (p q r : Addr) (T : Tm) (w : World) (hT : ¬ T.May) : Calls Tryz.prog 36 #[.pointer (some p), tmVal T, .pointer (some q), .pointer (some r)] w fun e w' => e = .returned (.tuple #[.pointer none, .int .i64 10]) ∧ Below w.heap.size w w' := by
  have HA := Lib.hid (fun W => afterp_bad T 0 (fun h => hT h.1) W)
  clear hT
  unfold tmVal
  obtain ⟨l, c, r', a, s, g⟩ := T
  dsimp only at *
  go_enter Tryz.func36, Tryz.ntmps36
  go_wp2_with fail
  ((with_reducible refine (HA.out _).mono ?_); rintro _ u ⟨rfl, hb⟩)
  have hz := hb.size
  (try simp only [World.size_alloc, World.size_setCell, World.size_drew] at hz)
  have hB' : Below w.heap.size w u := by
      refine kb ?_ hb
      go_grown
  clear hb hz
  have hB := hB'; clear hB'
  have hsz := hB.size
  go_wp2
  go_ret2
  exact ⟨rfl, by go_grown⟩
set_option maxRecDepth 100000 in
set_option maxHeartbeats 4000000 in
theorem bnew_c (mb mbb pb wb : Nat) (M : Int → Int × Int) (T : Tm) (S : Po) (W0 : Wh) (F G : Nat → Prop) (w : World) (hM : Pm mb mbb w M) (hT : T.May) (hS : Fit S) (hP : PO pb S F G w) (hW : W0.May) (hw : Pw wb W0 w) :
    Calls Tryz.prog 36 #[.pointer (some ⟨mb, 0, none⟩), tmVal T, .pointer (some ⟨pb, 0, none⟩), .pointer (some ⟨wb, 0, none⟩)] w (NewT (fun b => BO b ⟨M, T, S, W0, 0⟩) okV w) := by
  have HA := Lib.hid (fun W => afterp_c T 0 hT (Int.le_refl _) (by decide) W)
  rw [afterT_zero] at HA
  have HC := Lib.hid (fun bb W (h : Pv bb mb mbb pb wb ⟨M, T, S, W0, 0⟩ F G W) => bclone_c h hS)
  unfold NewT at HC
  have HP := Lib.hid (And.intro hM (And.intro hP hw))
  clear hM hT hS hP hW hw
  unfold tmVal
  obtain ⟨l, c, r, a, s, g⟩ := T
  dsimp only at *
  go_enter Tryz.func36, Tryz.ntmps36
  go_wp2_with fail
  ((with_reducible refine (HA.out _).mono ?_); rintro _ u ⟨rfl, hb⟩)
  have T : CC u w.heap.size 0 1 (.int .i64 l) (.int .i64 c) ∧ CC u w.heap.size 2 3 (.bool r) (.bool a) ∧ CC u w.heap.size 4 5 (.bool s) (.bool g) := by
      refine ⟨⟨?_, ?_⟩, ⟨?_, ?_⟩, ⟨?_, ?_⟩⟩ <;> refine kc hb ?_ <;> (go_simp; first | done | rfl)
  have hz := hb.size
  (try simp only [World.size_alloc, World.size_setCell, World.size_drew] at hz)
  have L : w.heap.size < u.heap.size := by omega
  have hB' : Below w.heap.size w u := by
      refine kb ?_ hb
      go_grown
  clear hb hz
  obtain ⟨⟨ht_0, ht_1⟩, ⟨ht_2, ht_3⟩, ⟨ht_4, ht_5⟩⟩ := T
  have hlt := L; clear L
  obtain ⟨hnt0, hnt1, hkt1, hnt2, hkt2⟩ := ap0 hlt
  have hB := hB'; clear hB'
  have hsz := hB.size
  go_wp2_with fail
  obtain ⟨W1, hW1⟩ : ∃ W, W = (u.alloc (Obj.cells #[.int .i64 l, .int .i64 c, .bool r, .bool a, .bool s, .bool g] 24)).alloc (Obj.cells #[.pointer (some ⟨mb, 0, none⟩), .int .i64 l, .int .i64 c, .bool r, .bool a, .bool s, .bool g, .pointer (some ⟨pb, 0, none⟩), .pointer (some ⟨wb, 0, none⟩), .int .i64 0] 113) := ⟨_, rfl⟩
  have hbW : Below w.heap.size w W1 := by rw [hW1]; go_grown
  have hPv : Pv (u.heap.size + 1) mb mbb pb wb ⟨M, ⟨l, c, r, a, s, g⟩, S, W0, 0⟩ F G W1 := by
    refine ⟨by rw [hW1]; go_simp; first | done | rfl, ?_, by rw [hW1]; go_simp; first | done | rfl, by rw [hW1]; go_simp; first | done | rfl, by rw [hW1]; go_simp; first | done | rfl, HP.out.1.below hbW, (PO.frm _ _).below HP.out.2.1 hbW, HP.out.2.2.below hbW⟩
    refine Tw.mk6 (by rw [hW1]; go_simp; first | done | rfl) (by rw [hW1]; go_simp; first | done | rfl) (by rw [hW1]; go_simp; first | done | rfl) (by rw [hW1]; go_simp; first | done | rfl) (by rw [hW1]; go_simp; first | done | rfl) (by rw [hW1]; go_simp; first | done | rfl) (by rw [hW1]; go_simp) (by rw [hW1]; go_simp) (by rw [hW1]; go_simp) (by rw [hW1]; go_simp) (by rw [hW1]; go_simp) (by rw [hW1]; go_simp)
  rw [← hW1]
  have HB := Lib.hid hbW
  clear hW1 hbW HA
  refine (HC.out _ W1 hPv).mono ?_
  rintro _ v ⟨nb, F', G', rfl, ho, hg, hl, hb⟩
  have HE := Lib.hid (And.intro ho (And.intro (fun k hk => Nat.le_trans HB.out.size (hg k hk)) (And.intro (Nat.le_trans HB.out.size hl) (Below.trans HB.out (hb.mono HB.out.size)))))
  clear ho hg hl hb hPv HC
  go_wp2
  go_ret2
  exact ⟨_, _, _, rfl, HE.out⟩
end Go.Proofs.YtcnejgilmciljaaGreatDoor
set_option linter.unusedSimpArgs false
set_option linter.unusedVariables false
namespace Go.Proofs.YtcnejgilmciljaaGreatDoor
open Go.RowKit Go.PlainAid

section
variable {P : Program} {ops : Array Oper} {S : World → Prop} {K : Act → Prop} {o : Oper} {r : List Oper} {a : Act}
theorem run_load_op {ty : TypeId} {x : Operand} (p : Value) {v : Value} {w : World} (ho : o.op = .load ty x) (hx : a.eval x = p) (hr : (Instr.loadAt ty p).run P w = .ok v w) : (execOp a.eval o).run P w = .ok (.value v) w := by
  unfold execOp
  simp only [ho, hx, Sem.run_bind, hr, Result.andThen_ok, Sem.run_pure]
theorem run_eql_op {ty t2 : TypeId} {x y : Operand} (A B : Array Value) {v : Value} {w : World} (ho : o.op = .binOp .eql ty x y t2) (hx : a.eval x = .agg A) (hy : a.eval y = .agg B) (hm : P.eqGuardType P.depth ty = false)
    (hr : (binOp .eql ty (.agg A) (.agg B)).run P w = .ok v w) : (execOp a.eval o).run P w = .ok (.value v) w := by
  unfold execOp
  simp only [ho, hx, hy, Sem.run_bind, run_eqGuard_agg w .eql ty x y A B hm, hr, Result.andThen_ok, Sem.run_pure]
theorem Plan.loadBig {ty : TypeId} {x : Operand} (p v : Value) (hw : Region.wanted o (yielded ops a.tmps) = true) (ho : o.op = .load ty x) (hx : a.eval x = p) (hr : ∀ w, S w → (Instr.loadAt ty p).run P w = .ok v w)
    (h : Plan P ops S K r (a.put o.dst v)) : Plan P ops S K (o :: r) a := Plan.val hw (fun w hS => run_load_op p ho hx (hr w hS)) h
theorem Plan.eqlBig {ty t2 : TypeId} {x y : Operand} (A B : Array Value) (v : Value) (hw : Region.wanted o (yielded ops a.tmps) = true) (ho : o.op = .binOp .eql ty x y t2) (hx : a.eval x = .agg A) (hy : a.eval y = .agg B) (hm : P.eqGuardType P.depth ty = false)
    (hr : ∀ w, S w → (binOp .eql ty (.agg A) (.agg B)).run P w = .ok v w) (h : Plan P ops S K r (a.put o.dst v)) : Plan P ops S K (o :: r) a := Plan.val hw (fun w hS => run_eql_op A B ho hx hy hm (hr w hS)) h
end
def sameI (a b : Int × Int) : Bool := (a.2 == b.2) && (bits .andNot .u8 a.1 a.2 == bits .andNot .u8 b.1 b.2)
theorem sameI_refl (a : Int × Int) : sameI a a = true := by unfold sameI; simp
set_option maxRecDepth 100000 in
theorem taints_c (v t v' t' : Int) (w : World) : Calls Tryz.prog 18 #[.agg #[.int .u8 v, .int .u8 t], .agg #[.int .u8 v', .int .u8 t']] w fun e w' => e = .returned (.bool (sameI (v, t) (v', t'))) ∧ Below w.heap.size w w' := by
  unfold sameI
  dsimp only
  cases d1 : (t == t')
  · go_enter Tryz.func18, Tryz.ntmps18
    go_wp2
    go_ret
    exact ⟨rfl, by go_grown⟩
  · go_enter Tryz.func18, Tryz.ntmps18
    go_wp2
    go_ret
    exact ⟨by simp, by go_grown⟩
def sameM (M N : Int → Int × Int) : Bool := (List.range 65536).all fun k => sameI (M k) (N k)
theorem sameM_iff (M N : Int → Int × Int) : sameM M N = true ↔ ∀ k : Nat, k < 65536 → sameI (M k) (N k) = true := by
  unfold sameM
  rw [List.all_eq_true]
  exact ⟨fun h k hk => h k (List.mem_range.2 hk), fun h k hk => h k (List.mem_range.1 hk)⟩
theorem sameM_refl (M : Int → Int × Int) : sameM M M = true := (sameM_iff M M).2 fun k _ => sameI_refl _
theorem eq_same {M N : Int → Int × Int} (h : eqM M N = true) : sameM M N = true := (sameM_iff M N).2 fun k hk => by rw [(eqM_iff M N).1 h k hk]; exact sameI_refl _
theorem guard_arr : Tryz.prog.eqGuardType Tryz.prog.depth 128 = false := by kernel_rfl
set_option maxRecDepth 100000 in
theorem samenn_c (w : World) : Calls Tryz.prog 62 #[.pointer none, .pointer none] w fun e w' => e = .returned (.bool true) ∧ Below w.heap.size w w' := by
  go_enter Tryz.func62, Tryz.ntmps62
  go_wp2
  go_ret
  exact ⟨rfl, by go_grown⟩
set_option maxRecDepth 100000 in
theorem samenp_c (p : Addr) (w : World) : Calls Tryz.prog 62 #[.pointer none, .pointer (some p)] w fun e w' => e = .returned (.bool false) ∧ Below w.heap.size w w' := by
  go_enter Tryz.func62, Tryz.ntmps62
  go_wp2
  go_ret
  exact ⟨rfl, by go_grown⟩
set_option maxRecDepth 100000 in
theorem samepn_c (p : Addr) (w : World) : Calls Tryz.prog 62 #[.pointer (some p), .pointer none] w fun e w' => e = .returned (.bool false) ∧ Below w.heap.size w w' := by
  go_enter Tryz.func62, Tryz.ntmps62
  go_wp2
  go_ret
  exact ⟨rfl, by go_grown⟩
set_option maxRecDepth 100000 in
set_option maxHeartbeats 4000000 in
theorem samep_c (M N : Int → Int × Int) (mb bb nb nbb : Nat) (w : World) (hP : Pm mb bb w M) (hQ : Pm nb nbb w N) :
    Calls Tryz.prog 62 #[.pointer (some ⟨mb, 0, none⟩), .pointer (some ⟨nb, 0, none⟩)] w fun e w' => e = .returned (.bool (sameM M N)) ∧ Below w.heap.size w w' := by
  obtain ⟨R, hR⟩ : ∃ R, sameM M N = R := ⟨_, rfl⟩
  rw [hR]
  have HR := Lib.hid hR
  clear hR
  have HP := Lib.hid hP
  have HQ := Lib.hid hQ
  have hm_0 := hP.c0
  have hn_0 := hQ.c0
  have hmw : mb < w.heap.size := klt hm_0
  have hnw : nb < w.heap.size := klt hn_0
  obtain ⟨A, tA, hrA, hA⟩ := hP.row
  obtain ⟨B, tB, hrB, hB2⟩ := hQ.row
  have HrA := Lib.hid (fun (W : World) (h : Below w.heap.size w W) => load_arr ((h.block bb hP.lt).trans hrA) hA.sz)
  have HrB := Lib.hid (fun (W : World) (h : Below w.heap.size w W) => load_arr ((h.block nbb hQ.lt).trans hrB) hB2.sz)
  have HE := Lib.hid (fun W => eql_arr hA hB2 W)
  have HES := Lib.hid (fun h : eqM M N = true => eq_same h)
  have hbw := hP.lt
  have hnbw := hQ.lt
  clear hP hQ hrA hrB hA hB2
  generalize eqM M N = E at *
  go_enter Tryz.func62, Tryz.ntmps62
  go_upto_region 3 with fail
  refine wp_region_plan (fun w' => w'.cell? ⟨mb, 0, none⟩ = some (.pointer (some ⟨bb, 0, none⟩)) ∧ w'.cell? ⟨nb, 0, none⟩ = some (.pointer (some ⟨nbb, 0, none⟩)) ∧ Below w.heap.size w w') (by kernel_rfl) (by kernel_rfl) (by kernel_rfl) ?_ ?_
  · (try dsimp only)
    refine ⟨?_, ?_, ?_⟩ <;> first | (go_simp; done) | (simp [*]; done) | go_grown
  repeat (first
    | ((refine Plan.loadBig (.pointer (some ⟨bb, 0, none⟩)) (.agg A) rfl rfl rfl (fun W hSw => HrA.out W hSw.2.2) ?_); (try simp only [Act.put, List.setIfInBounds_toArray, List.set_cons_zero, List.set_cons_succ]))
    | ((refine Plan.loadBig (.pointer (some ⟨nbb, 0, none⟩)) (.agg B) rfl rfl rfl (fun W hSw => HrB.out W hSw.2.2) ?_); (try simp only [Act.put, List.setIfInBounds_toArray, List.set_cons_zero, List.set_cons_succ]))
    | ((refine Plan.eqlBig A B (.bool E) rfl rfl rfl rfl guard_arr (fun W _ => HE.out W) ?_); (try simp only [Act.put, List.setIfInBounds_toArray, List.set_cons_zero, List.set_cons_succ]))
    | (refine Plan.val (v := ?_) ?_ ?_ ?_; rotate_left; (· rfl); (· (intro W hSw; (try dsimp only at hSw); go_simp; all_goals (first | (with_reducible rfl) | (constructor <;> (with_reducible rfl)) | (rw [if_neg (by omega)]; done) | (rw [if_neg (by omega)]; with_reducible rfl)))); (try simp only [Act.put, List.setIfInBounds_toArray, List.set_cons_zero, List.set_cons_succ]))
    | (refine Plan.no ?_ ?_; (· rfl); (try simp only [Act.put, List.setIfInBounds_toArray, List.set_cons_zero, List.set_cons_succ])))
  refine Plan.done ?_
  intro u1 T
  (try dsimp only at T)
  obtain ⟨hm_0, hn_0, hB⟩ := T
  have hsz := hB.size
  have hlm := klt hm_0
  have hln := klt hn_0
  obtain ⟨hnm0, hnm1, hkm1, hnm2, hkm2⟩ := ap0 hlm
  obtain ⟨hnn0, hnn1, hkn1, hnn2, hkn2⟩ := ap0 hln
  obtain ⟨G, hG⟩ : ∃ G : Nat, 65536 = G := ⟨_, rfl⟩
  have HG := Lib.hid hG
  clear hG
  cases E
  · go_wp2_with fail
    go_loopw [36] (fun s36 wr => ∃ k : Nat, k ≤ G ∧ s36 = .int .i64 k ∧ Hid (∀ j : Nat, j < k → sameI (M j) (N j) = true) ∧ Below w.heap.size w wr) (fun i _ => G - (intOf i).toNat)
    case atStart => exact ⟨0, Nat.zero_le _, rfl, Lib.hid (fun j h => absurd h (by omega)), hB⟩
    case round =>
      obtain ⟨k, hkG, rfl, HK, hBr⟩ := hrel
      have HKG := Lib.hid hkG
      clear hkG
      clear hB hsz hlm hln hm_0 hn_0
      by_cases hlt : k < 65536
      · have hd : decide ((k : Int) < 65536) = true := decide_eq_true (by omega)
        have hw1 : IntKind.i64.wrap ((k : Int) + 1) = (k : Int) + 1 := IntWalk.i64_in _ (by omega)
        have hin : (0 : Int) ≤ (k : Int) ∧ (k : Int) < 65536 := by omega
        have hPr := HP.out.below hBr
        have hQr := HQ.out.below hBr
        have hB := hBr
        have hsz := hBr.size
        have hm_0 := hPr.c0
        have hn_0 := hQr.c0
        have x0 := hPr.at0 k hlt
        have x1 := hPr.at1 k hlt
        have y0 := hQr.at0 k hlt
        have y1 := hQr.at1 k hlt
        have hlb := hPr.lt
        have hlbb := hQr.lt
        have hlm := klt hPr.c0
        have hln := klt hn_0
        have HC := Lib.hid (fun W => taints_c (M (k : Int)).1 (M (k : Int)).2 (N (k : Int)).1 (N (k : Int)).2 W)
        have HKK := Lib.hid (show sameI ((M (k : Int)).1, (M (k : Int)).2) ((N (k : Int)).1, (N (k : Int)).2) = true → ∀ j : Nat, j < k + 1 → sameI (M j) (N j) = true from fun h j hj => by
          by_cases e : j = k
          · subst e; exact h
          · exact HK.out j (by omega))
        have HKN := Lib.hid (show sameI ((M (k : Int)).1, (M (k : Int)).2) ((N (k : Int)).1, (N (k : Int)).2) = false → R = false from fun h => by
          rw [← HR.out]
          cases e : sameM M N
          · rfl
          · have := (sameM_iff M N).1 e k hlt
            have h2 : sameI (M (k : Int)) (N (k : Int)) = false := h
            rw [h2] at this
            cases this)
        generalize sameI ((M (k : Int)).1, (M (k : Int)).2) ((N (k : Int)).1, (N (k : Int)).2) = C at *
        generalize (M (k : Int)).1 = m0 at *
        generalize (M (k : Int)).2 = m1 at *
        generalize (N (k : Int)).1 = n0 at *
        generalize (N (k : Int)).2 = n1 at *
        clear hPr hQr
        go_wp2_with fail
        go_region
        go_wp2_with fail
        refine wp_region_plan (fun w' => w'.cell? ⟨wr.heap.size, 0, none⟩ = some (.int .u8 m0) ∧ w'.cell? ⟨wr.heap.size, 1, none⟩ = some (.int .u8 m1) ∧ w'.cell? ⟨nbb, k * 2, none⟩ = some (.int .u8 n0) ∧ w'.cell? ⟨nbb, k * 2 + 1, none⟩ = some (.int .u8 n1) ∧ w'.cell? ⟨nb, 0, none⟩ = some (.pointer (some ⟨nbb, 0, none⟩)) ∧ Below w.heap.size w w') (by kernel_rfl) (by kernel_rfl) (by kernel_rfl) ?_ ?_
        · (try dsimp only)
          refine ⟨?_, ?_, ?_, ?_, ?_, ?_⟩ <;> first | (go_simp; done) | (simp [*]; done) | go_grown
        repeat (first
          | (refine Plan.val (v := ?_) ?_ ?_ ?_; rotate_left; (· rfl); (· (intro W hSw; (try dsimp only at hSw); go_simp; all_goals (first | (with_reducible rfl) | (constructor <;> (with_reducible rfl)) | (rw [if_neg (by omega)]; done) | (rw [if_neg (by omega)]; with_reducible rfl)))); (try simp only [Act.put, List.setIfInBounds_toArray, List.set_cons_zero, List.set_cons_succ]))
          | (refine Plan.no ?_ ?_; (· rfl); (try simp only [Act.put, List.setIfInBounds_toArray, List.set_cons_zero, List.set_cons_succ]))
          | (refine Plan.call (v := ?_) (f := ?_) (args := ?_) ?_ ?_ ?_ ?_; rotate_left 3; (· rfl); (· (intro W hSw; (try dsimp only at hSw); go_simp; all_goals (first | (with_reducible rfl) | (constructor <;> (with_reducible rfl)) | (rw [if_neg (by omega)]; done) | (rw [if_neg (by omega)]; with_reducible rfl)))); (· (intro W hSw; (try dsimp only at hSw); first | (go_at_call 18; ((with_reducible refine (HC.out _).mono ?_); rintro _ wz ⟨rfl, hb⟩; (refine ⟨?_, ?_⟩; (· with_reducible rfl); exact ⟨kc hb hSw.1, kc hb hSw.2.1, kc hb hSw.2.2.1, kc hb hSw.2.2.2.1, kc hb hSw.2.2.2.2.1, kb hSw.2.2.2.2.2 hb⟩))))); (try simp only [Act.put, List.setIfInBounds_toArray, List.set_cons_zero, List.set_cons_succ])))
        refine Plan.done ?_
        intro u3 T
        (try dsimp only at T)
        clear hm_0 hn_0 hB hsz hlm hln hnm0 hnm1 hkm1 hnm2 hkm2 hnn0 hnn1 hkn1 hnn2 hkn2
        obtain ⟨hx_0, hx_1, hy_0, hy_1, hn_0, hB⟩ := T
        have hsz := hB.size
        have hlx := klt hx_0
        have hly := klt hy_0
        have hln := klt hn_0
        obtain ⟨hnx0, hnx1, hkx1, hnx2, hkx2⟩ := ap0 hlx
        obtain ⟨hny0, hny1, hky1, hny2, hky2⟩ := ap0 hly
        obtain ⟨hnn0, hnn1, hkn1, hnn2, hkn2⟩ := ap0 hln
        clear hd hin
        cases C
        · have HF := Lib.hid (show R = false from HKN.out rfl)
          go_wp2
          go_ret
          exact ⟨ret_bool HF.out.symm, hB⟩
        · have HF := Lib.hid (HKK.out rfl)
          go_wp2
          go_roundw
          case rel => exact ⟨k + 1, by have := HG.out; omega, by go_num, HF, hB⟩
          case measure => have := HG.out; simp [intOf] <;> omega
      · have hd : decide ((k : Int) < 65536) = false := decide_eq_false (by omega)
        have HF := Lib.hid (show R = true from by
          rw [← HR.out]
          exact (sameM_iff M N).2 fun j hj => HK.out j (by have := HG.out; have := HKG.out; omega))
        go_wp2
        go_ret
        exact ⟨ret_bool HF.out.symm, hBr⟩
  · have HF := Lib.hid (show R = true from by rw [← HR.out]; exact HES.out rfl)
    go_wp2
    go_ret
    exact ⟨ret_bool HF.out.symm, hB⟩
end Go.Proofs.YtcnejgilmciljaaGreatDoor
