/-
  The program's timer: After.
-/
import Derived.Test.YtcpegglfgfgekaaProgr10
set_option linter.unusedSimpArgs false
set_option linter.unusedVariables false
namespace Go.Proofs.Ytcpegglfgfgekaa
open Go.RowKit Go.PlainAid

theorem mayI_iff (n : Int) : mayI n = true ↔ 0 ≤ n ∧ n < 65536 := by
  unfold mayI
  simp only [Bool.and_eq_true, decide_eq_true_eq]
  omega
theorem mayI_not (n : Int) (h : ¬ (0 ≤ n ∧ n < 65536)) : mayI n = false := by
  cases e : mayI n
  · rfl
  · exact absurd ((mayI_iff n).1 e) h
theorem ret_tup6 {l c : Int} {r a s g : Bool} {y : Tm} (h : y = ⟨l, c, r, a, s, g⟩) : Ending.returned (.tuple #[.agg #[.int .i64 l, .int .i64 c, .bool r, .bool a, .bool s, .bool g], .int .i64 0]) = .returned (.tuple #[.agg #[.int .i64 y.l, .int .i64 y.c, .bool y.r, .bool y.a, .bool y.s, .bool y.g], .int .i64 0]) := by rw [h]
set_option maxRecDepth 100000 in
set_option maxHeartbeats 2000000 in
theorem afterp_bad (x : Tm) (n : Int) (h : ¬ (x.May ∧ 0 ≤ n ∧ n ≤ 1099511627776)) (w : World) : Calls Try.prog 20 #[.agg #[.int .i64 x.l, .int .i64 x.c, .bool x.r, .bool x.a, .bool x.s, .bool x.g], .int .i64 n] w
    fun e w' => e = .returned (.tuple #[.agg #[.int .i64 0, .int .i64 0, .bool false, .bool false, .bool false, .bool false], .int .i64 10]) ∧ Below w.heap.size w w' := by
  obtain ⟨l, c, r, a, s, g⟩ := x
  unfold Tm.May at h
  dsimp only at h ⊢
  have HL := Lib.hid (fun W => maybe_c l W)
  have HC := Lib.hid (fun W => maybe_c c W)
  by_cases h1 : 0 ≤ l ∧ l < 65536
  case neg =>
    rw [mayI_not l h1] at HL
    clear h h1
    go_enter Try.func20, Try.ntmps20
    go_wp2_with fail
    refine wp_scope_hid 0 fun C hC => ?_
    go_wp2_with fail
    ((with_reducible refine (HL.out _).mono ?_); rintro _ u1 ⟨rfl, hb⟩)
    have T : CF u1 w.heap.size 0 (.int .i64 l) ∧ CF u1 w.heap.size 1 (.int .i64 c) ∧ CF u1 w.heap.size 2 (.bool r) ∧ CF u1 w.heap.size 3 (.bool a) ∧ CF u1 w.heap.size 4 (.bool s) ∧ CF u1 w.heap.size 5 (.bool g) ∧ CF u1 (w.heap.size + 1) 0 (.int .i64 0) ∧ CF u1 (w.heap.size + 1) 1 (.int .i64 0) ∧ CF u1 (w.heap.size + 1) 2 (.bool false) ∧ CF u1 (w.heap.size + 1) 3 (.bool false) ∧ CF u1 (w.heap.size + 1) 4 (.bool false) ∧ CF u1 (w.heap.size + 1) 5 (.bool false) := by
        refine ⟨⟨?_, ?_⟩, ⟨?_, ?_⟩, ⟨?_, ?_⟩, ⟨?_, ?_⟩, ⟨?_, ?_⟩, ⟨?_, ?_⟩, ⟨?_, ?_⟩, ⟨?_, ?_⟩, ⟨?_, ?_⟩, ⟨?_, ?_⟩, ⟨?_, ?_⟩, ⟨?_, ?_⟩⟩ <;> first | (refine kc hb ?_ <;> (go_simp; first | done | rfl)) | (refine kfz hb ?_ ?_ <;> first | (go_size; done) | (go_simp; done))
    have hz := hb.size
    (try simp only [World.size_alloc, World.size_setCell, World.size_drew] at hz)
    have L : w.heap.size < u1.heap.size ∧ w.heap.size + 1 < u1.heap.size := by omega
    have hB' : Below w.heap.size w u1 := by
        refine kb ?_ hb
        go_grown
    clear hb hz
    obtain ⟨⟨ht_0, ft_0⟩, ⟨ht_1, ft_1⟩, ⟨ht_2, ft_2⟩, ⟨ht_3, ft_3⟩, ⟨ht_4, ft_4⟩, ⟨ht_5, ft_5⟩, ⟨hz_0, fz_0⟩, ⟨hz_1, fz_1⟩, ⟨hz_2, fz_2⟩, ⟨hz_3, fz_3⟩, ⟨hz_4, fz_4⟩, ⟨hz_5, fz_5⟩⟩ := T
    obtain ⟨hlt, hlz⟩ := L
    obtain ⟨hnt0, hnt1, hkt1, hnt2, hkt2⟩ := ap0 hlt
    obtain ⟨hnz0, hkz1⟩ := ap1 hlz
    have hB := hB'; clear hB'
    have hsz := hB.size
    go_wp2
    (try rw [Into.ret])
    refine bodyPost_ret (v := .tuple #[.agg #[.int .i64 0, .int .i64 0, .bool false, .bool false, .bool false, .bool false], .int .i64 10]) (by simp [results, Try.results20, go_sem, hz_0, hz_1, hz_2, hz_3, hz_4, hz_5] <;> first | done | rfl) rfl ⟨rfl, by go_grown⟩
  rw [(mayI_iff l).2 h1] at HL
  by_cases h2 : 0 ≤ c ∧ c < 65536
  case neg =>
    rw [mayI_not c h2] at HC
    clear h h1 h2
    go_enter Try.func20, Try.ntmps20
    go_wp2_with fail
    refine wp_scope_hid 0 fun C hC => ?_
    go_wp2_with fail
    ((with_reducible refine (HL.out _).mono ?_); rintro _ u1 ⟨rfl, hb⟩)
    have T : CF u1 w.heap.size 0 (.int .i64 l) ∧ CF u1 w.heap.size 1 (.int .i64 c) ∧ CF u1 w.heap.size 2 (.bool r) ∧ CF u1 w.heap.size 3 (.bool a) ∧ CF u1 w.heap.size 4 (.bool s) ∧ CF u1 w.heap.size 5 (.bool g) ∧ CF u1 (w.heap.size + 1) 0 (.int .i64 0) ∧ CF u1 (w.heap.size + 1) 1 (.int .i64 0) ∧ CF u1 (w.heap.size + 1) 2 (.bool false) ∧ CF u1 (w.heap.size + 1) 3 (.bool false) ∧ CF u1 (w.heap.size + 1) 4 (.bool false) ∧ CF u1 (w.heap.size + 1) 5 (.bool false) := by
        refine ⟨⟨?_, ?_⟩, ⟨?_, ?_⟩, ⟨?_, ?_⟩, ⟨?_, ?_⟩, ⟨?_, ?_⟩, ⟨?_, ?_⟩, ⟨?_, ?_⟩, ⟨?_, ?_⟩, ⟨?_, ?_⟩, ⟨?_, ?_⟩, ⟨?_, ?_⟩, ⟨?_, ?_⟩⟩ <;> first | (refine kc hb ?_ <;> (go_simp; first | done | rfl)) | (refine kfz hb ?_ ?_ <;> first | (go_size; done) | (go_simp; done))
    have hz := hb.size
    (try simp only [World.size_alloc, World.size_setCell, World.size_drew] at hz)
    have L : w.heap.size < u1.heap.size ∧ w.heap.size + 1 < u1.heap.size := by omega
    have hB' : Below w.heap.size w u1 := by
        refine kb ?_ hb
        go_grown
    clear hb hz
    obtain ⟨⟨ht_0, ft_0⟩, ⟨ht_1, ft_1⟩, ⟨ht_2, ft_2⟩, ⟨ht_3, ft_3⟩, ⟨ht_4, ft_4⟩, ⟨ht_5, ft_5⟩, ⟨hz_0, fz_0⟩, ⟨hz_1, fz_1⟩, ⟨hz_2, fz_2⟩, ⟨hz_3, fz_3⟩, ⟨hz_4, fz_4⟩, ⟨hz_5, fz_5⟩⟩ := T
    obtain ⟨hlt, hlz⟩ := L
    obtain ⟨hnt0, hnt1, hkt1, hnt2, hkt2⟩ := ap0 hlt
    obtain ⟨hnz0, hkz1⟩ := ap1 hlz
    have hB := hB'; clear hB'
    have hsz := hB.size
    go_wp2_with fail
    ((with_reducible refine (HC.out _).mono ?_); rintro _ u2 ⟨rfl, hb⟩)
    have T : CF u2 w.heap.size 0 (.int .i64 l) ∧ CF u2 w.heap.size 1 (.int .i64 c) ∧ CF u2 w.heap.size 2 (.bool r) ∧ CF u2 w.heap.size 3 (.bool a) ∧ CF u2 w.heap.size 4 (.bool s) ∧ CF u2 w.heap.size 5 (.bool g) ∧ CF u2 (w.heap.size + 1) 0 (.int .i64 0) ∧ CF u2 (w.heap.size + 1) 1 (.int .i64 0) ∧ CF u2 (w.heap.size + 1) 2 (.bool false) ∧ CF u2 (w.heap.size + 1) 3 (.bool false) ∧ CF u2 (w.heap.size + 1) 4 (.bool false) ∧ CF u2 (w.heap.size + 1) 5 (.bool false) := by
        refine ⟨⟨?_, ?_⟩, ⟨?_, ?_⟩, ⟨?_, ?_⟩, ⟨?_, ?_⟩, ⟨?_, ?_⟩, ⟨?_, ?_⟩, ⟨?_, ?_⟩, ⟨?_, ?_⟩, ⟨?_, ?_⟩, ⟨?_, ?_⟩, ⟨?_, ?_⟩, ⟨?_, ?_⟩⟩ <;> first | (refine kc hb ?_ <;> (go_simp; first | done | rfl)) | (refine kfz hb ?_ ?_ <;> first | (go_size; done) | (go_simp; done))
    have hz := hb.size
    (try simp only [World.size_alloc, World.size_setCell, World.size_drew] at hz)
    have L : w.heap.size < u2.heap.size ∧ w.heap.size + 1 < u2.heap.size := by omega
    have hB' : Below w.heap.size w u2 := by
        refine kb ?_ hb
        go_grown
    clear ht_0 ft_0 ht_1 ft_1 ht_2 ft_2 ht_3 ft_3 ht_4 ft_4 ht_5 ft_5 hz_0 fz_0 hz_1 fz_1 hz_2 fz_2 hz_3 fz_3 hz_4 fz_4 hz_5 fz_5 hlt hlz hnt0 hnt1 hkt1 hnt2 hkt2 hnz0 hkz1 hB hsz
    clear hb hz
    obtain ⟨⟨ht_0, ft_0⟩, ⟨ht_1, ft_1⟩, ⟨ht_2, ft_2⟩, ⟨ht_3, ft_3⟩, ⟨ht_4, ft_4⟩, ⟨ht_5, ft_5⟩, ⟨hz_0, fz_0⟩, ⟨hz_1, fz_1⟩, ⟨hz_2, fz_2⟩, ⟨hz_3, fz_3⟩, ⟨hz_4, fz_4⟩, ⟨hz_5, fz_5⟩⟩ := T
    obtain ⟨hlt, hlz⟩ := L
    obtain ⟨hnt0, hnt1, hkt1, hnt2, hkt2⟩ := ap0 hlt
    obtain ⟨hnz0, hkz1⟩ := ap1 hlz
    have hB := hB'; clear hB'
    have hsz := hB.size
    go_wp2
    (try rw [Into.ret])
    refine bodyPost_ret (v := .tuple #[.agg #[.int .i64 0, .int .i64 0, .bool false, .bool false, .bool false, .bool false], .int .i64 10]) (by simp [results, Try.results20, go_sem, hz_0, hz_1, hz_2, hz_3, hz_4, hz_5] <;> first | done | rfl) rfl ⟨rfl, by go_grown⟩
  rw [(mayI_iff c).2 h2] at HC
  have h3 : n < 0 ∨ 0 ≤ n ∧ 1099511627776 < n := by omega
  clear h h1 h2
  rcases h3 with h3 | ⟨h3, h4⟩
  all_goals
    go_enter Try.func20, Try.ntmps20
    go_wp2_with fail
    refine wp_scope_hid 0 fun C hC => ?_
    go_wp2_with fail
    ((with_reducible refine (HL.out _).mono ?_); rintro _ u1 ⟨rfl, hb⟩)
    have T : CF u1 w.heap.size 0 (.int .i64 l) ∧ CF u1 w.heap.size 1 (.int .i64 c) ∧ CF u1 w.heap.size 2 (.bool r) ∧ CF u1 w.heap.size 3 (.bool a) ∧ CF u1 w.heap.size 4 (.bool s) ∧ CF u1 w.heap.size 5 (.bool g) ∧ CF u1 (w.heap.size + 1) 0 (.int .i64 0) ∧ CF u1 (w.heap.size + 1) 1 (.int .i64 0) ∧ CF u1 (w.heap.size + 1) 2 (.bool false) ∧ CF u1 (w.heap.size + 1) 3 (.bool false) ∧ CF u1 (w.heap.size + 1) 4 (.bool false) ∧ CF u1 (w.heap.size + 1) 5 (.bool false) := by
        refine ⟨⟨?_, ?_⟩, ⟨?_, ?_⟩, ⟨?_, ?_⟩, ⟨?_, ?_⟩, ⟨?_, ?_⟩, ⟨?_, ?_⟩, ⟨?_, ?_⟩, ⟨?_, ?_⟩, ⟨?_, ?_⟩, ⟨?_, ?_⟩, ⟨?_, ?_⟩, ⟨?_, ?_⟩⟩ <;> first | (refine kc hb ?_ <;> (go_simp; first | done | rfl)) | (refine kfz hb ?_ ?_ <;> first | (go_size; done) | (go_simp; done))
    have hz := hb.size
    (try simp only [World.size_alloc, World.size_setCell, World.size_drew] at hz)
    have L : w.heap.size < u1.heap.size ∧ w.heap.size + 1 < u1.heap.size := by omega
    have hB' : Below w.heap.size w u1 := by
        refine kb ?_ hb
        go_grown
    clear hb hz
    obtain ⟨⟨ht_0, ft_0⟩, ⟨ht_1, ft_1⟩, ⟨ht_2, ft_2⟩, ⟨ht_3, ft_3⟩, ⟨ht_4, ft_4⟩, ⟨ht_5, ft_5⟩, ⟨hz_0, fz_0⟩, ⟨hz_1, fz_1⟩, ⟨hz_2, fz_2⟩, ⟨hz_3, fz_3⟩, ⟨hz_4, fz_4⟩, ⟨hz_5, fz_5⟩⟩ := T
    obtain ⟨hlt, hlz⟩ := L
    obtain ⟨hnt0, hnt1, hkt1, hnt2, hkt2⟩ := ap0 hlt
    obtain ⟨hnz0, hkz1⟩ := ap1 hlz
    have hB := hB'; clear hB'
    have hsz := hB.size
    go_wp2_with fail
    ((with_reducible refine (HC.out _).mono ?_); rintro _ u2 ⟨rfl, hb⟩)
    have T : CF u2 w.heap.size 0 (.int .i64 l) ∧ CF u2 w.heap.size 1 (.int .i64 c) ∧ CF u2 w.heap.size 2 (.bool r) ∧ CF u2 w.heap.size 3 (.bool a) ∧ CF u2 w.heap.size 4 (.bool s) ∧ CF u2 w.heap.size 5 (.bool g) ∧ CF u2 (w.heap.size + 1) 0 (.int .i64 0) ∧ CF u2 (w.heap.size + 1) 1 (.int .i64 0) ∧ CF u2 (w.heap.size + 1) 2 (.bool false) ∧ CF u2 (w.heap.size + 1) 3 (.bool false) ∧ CF u2 (w.heap.size + 1) 4 (.bool false) ∧ CF u2 (w.heap.size + 1) 5 (.bool false) := by
        refine ⟨⟨?_, ?_⟩, ⟨?_, ?_⟩, ⟨?_, ?_⟩, ⟨?_, ?_⟩, ⟨?_, ?_⟩, ⟨?_, ?_⟩, ⟨?_, ?_⟩, ⟨?_, ?_⟩, ⟨?_, ?_⟩, ⟨?_, ?_⟩, ⟨?_, ?_⟩, ⟨?_, ?_⟩⟩ <;> first | (refine kc hb ?_ <;> (go_simp; first | done | rfl)) | (refine kfz hb ?_ ?_ <;> first | (go_size; done) | (go_simp; done))
    have hz := hb.size
    (try simp only [World.size_alloc, World.size_setCell, World.size_drew] at hz)
    have L : w.heap.size < u2.heap.size ∧ w.heap.size + 1 < u2.heap.size := by omega
    have hB' : Below w.heap.size w u2 := by
        refine kb ?_ hb
        go_grown
    clear ht_0 ft_0 ht_1 ft_1 ht_2 ft_2 ht_3 ft_3 ht_4 ft_4 ht_5 ft_5 hz_0 fz_0 hz_1 fz_1 hz_2 fz_2 hz_3 fz_3 hz_4 fz_4 hz_5 fz_5 hlt hlz hnt0 hnt1 hkt1 hnt2 hkt2 hnz0 hkz1 hB hsz
    clear hb hz
    obtain ⟨⟨ht_0, ft_0⟩, ⟨ht_1, ft_1⟩, ⟨ht_2, ft_2⟩, ⟨ht_3, ft_3⟩, ⟨ht_4, ft_4⟩, ⟨ht_5, ft_5⟩, ⟨hz_0, fz_0⟩, ⟨hz_1, fz_1⟩, ⟨hz_2, fz_2⟩, ⟨hz_3, fz_3⟩, ⟨hz_4, fz_4⟩, ⟨hz_5, fz_5⟩⟩ := T
    obtain ⟨hlt, hlz⟩ := L
    obtain ⟨hnt0, hnt1, hkt1, hnt2, hkt2⟩ := ap0 hlt
    obtain ⟨hnz0, hkz1⟩ := ap1 hlz
    have hB := hB'; clear hB'
    have hsz := hB.size
    go_wp2
    (try rw [Into.ret])
    refine bodyPost_ret (v := .tuple #[.agg #[.int .i64 0, .int .i64 0, .bool false, .bool false, .bool false, .bool false], .int .i64 10]) (by simp [results, Try.results20, go_sem, hz_0, hz_1, hz_2, hz_3, hz_4, hz_5] <;> first | done | rfl) rfl ⟨rfl, by go_grown⟩
set_option maxRecDepth 100000 in
set_option maxHeartbeats 2000000 in
theorem afterp_c (x : Tm) (n : Int) (hm : x.May) (h0 : 0 ≤ n) (hn : n ≤ 1099511627776) (w : World) : Calls Try.prog 20 #[.agg #[.int .i64 x.l, .int .i64 x.c, .bool x.r, .bool x.a, .bool x.s, .bool x.g], .int .i64 n] w
    fun e w' => e = .returned (.tuple #[.agg #[.int .i64 (afterT x n).l, .int .i64 (afterT x n).c, .bool (afterT x n).r, .bool (afterT x n).a, .bool (afterT x n).s, .bool (afterT x n).g], .int .i64 0]) ∧ Below w.heap.size w w' := by
  have HM := Lib.hid hm
  obtain ⟨l, c, r, a, s, g⟩ := x
  obtain ⟨h1, h2⟩ := hm
  dsimp only at h1 h2 ⊢
  have HL := Lib.hid (fun W => maybe_c l W)
  have HC := Lib.hid (fun W => maybe_c c W)
  rw [(mayI_iff l).2 h1] at HL
  rw [(mayI_iff c).2 h2] at HC
  have d1 : decide (n < 0) = false := by simpa using h0
  have d2 : decide (1099511627776 < n) = false := by simpa using hn
  cases r
  · have _k := trivial
    rw [afterT_still _ _ rfl]
    dsimp only
    go_enter Try.func20, Try.ntmps20
    go_wp2_with fail
    refine wp_scope_hid 0 fun C hC => ?_
    go_wp2_with fail
    ((with_reducible refine (HL.out _).mono ?_); rintro _ u1 ⟨rfl, hb⟩)
    have T : CF u1 w.heap.size 0 (.int .i64 l) ∧ CF u1 w.heap.size 1 (.int .i64 c) ∧ CF u1 w.heap.size 2 (.bool false) ∧ CF u1 w.heap.size 3 (.bool a) ∧ CF u1 w.heap.size 4 (.bool s) ∧ CF u1 w.heap.size 5 (.bool g) ∧ CF u1 (w.heap.size + 1) 0 (.int .i64 0) ∧ CF u1 (w.heap.size + 1) 1 (.int .i64 0) ∧ CF u1 (w.heap.size + 1) 2 (.bool false) ∧ CF u1 (w.heap.size + 1) 3 (.bool false) ∧ CF u1 (w.heap.size + 1) 4 (.bool false) ∧ CF u1 (w.heap.size + 1) 5 (.bool false) := by
        refine ⟨⟨?_, ?_⟩, ⟨?_, ?_⟩, ⟨?_, ?_⟩, ⟨?_, ?_⟩, ⟨?_, ?_⟩, ⟨?_, ?_⟩, ⟨?_, ?_⟩, ⟨?_, ?_⟩, ⟨?_, ?_⟩, ⟨?_, ?_⟩, ⟨?_, ?_⟩, ⟨?_, ?_⟩⟩ <;> first | (refine kc hb ?_ <;> (go_simp; first | done | rfl)) | (refine kfz hb ?_ ?_ <;> first | (go_size; done) | (go_simp; done))
    have hz := hb.size
    (try simp only [World.size_alloc, World.size_setCell, World.size_drew] at hz)
    have L : w.heap.size < u1.heap.size ∧ w.heap.size + 1 < u1.heap.size := by omega
    have hB' : Below w.heap.size w u1 := by
        refine kb ?_ hb
        go_grown
    clear hb hz
    obtain ⟨⟨ht_0, ft_0⟩, ⟨ht_1, ft_1⟩, ⟨ht_2, ft_2⟩, ⟨ht_3, ft_3⟩, ⟨ht_4, ft_4⟩, ⟨ht_5, ft_5⟩, ⟨hz_0, fz_0⟩, ⟨hz_1, fz_1⟩, ⟨hz_2, fz_2⟩, ⟨hz_3, fz_3⟩, ⟨hz_4, fz_4⟩, ⟨hz_5, fz_5⟩⟩ := T
    obtain ⟨hlt, hlz⟩ := L
    obtain ⟨hnt0, hnt1, hkt1, hnt2, hkt2⟩ := ap0 hlt
    obtain ⟨hnz0, hkz1⟩ := ap1 hlz
    have hB := hB'; clear hB'
    have hsz := hB.size
    go_wp2_with fail
    ((with_reducible refine (HC.out _).mono ?_); rintro _ u2 ⟨rfl, hb⟩)
    have T : CF u2 w.heap.size 0 (.int .i64 l) ∧ CF u2 w.heap.size 1 (.int .i64 c) ∧ CF u2 w.heap.size 2 (.bool false) ∧ CF u2 w.heap.size 3 (.bool a) ∧ CF u2 w.heap.size 4 (.bool s) ∧ CF u2 w.heap.size 5 (.bool g) ∧ CF u2 (w.heap.size + 1) 0 (.int .i64 0) ∧ CF u2 (w.heap.size + 1) 1 (.int .i64 0) ∧ CF u2 (w.heap.size + 1) 2 (.bool false) ∧ CF u2 (w.heap.size + 1) 3 (.bool false) ∧ CF u2 (w.heap.size + 1) 4 (.bool false) ∧ CF u2 (w.heap.size + 1) 5 (.bool false) := by
        refine ⟨⟨?_, ?_⟩, ⟨?_, ?_⟩, ⟨?_, ?_⟩, ⟨?_, ?_⟩, ⟨?_, ?_⟩, ⟨?_, ?_⟩, ⟨?_, ?_⟩, ⟨?_, ?_⟩, ⟨?_, ?_⟩, ⟨?_, ?_⟩, ⟨?_, ?_⟩, ⟨?_, ?_⟩⟩ <;> first | (refine kc hb ?_ <;> (go_simp; first | done | rfl)) | (refine kfz hb ?_ ?_ <;> first | (go_size; done) | (go_simp; done))
    have hz := hb.size
    (try simp only [World.size_alloc, World.size_setCell, World.size_drew] at hz)
    have L : w.heap.size < u2.heap.size ∧ w.heap.size + 1 < u2.heap.size := by omega
    have hB' : Below w.heap.size w u2 := by
        refine kb ?_ hb
        go_grown
    clear ht_0 ft_0 ht_1 ft_1 ht_2 ft_2 ht_3 ft_3 ht_4 ft_4 ht_5 ft_5 hz_0 fz_0 hz_1 fz_1 hz_2 fz_2 hz_3 fz_3 hz_4 fz_4 hz_5 fz_5 hlt hlz hnt0 hnt1 hkt1 hnt2 hkt2 hnz0 hkz1 hB hsz
    clear hb hz
    obtain ⟨⟨ht_0, ft_0⟩, ⟨ht_1, ft_1⟩, ⟨ht_2, ft_2⟩, ⟨ht_3, ft_3⟩, ⟨ht_4, ft_4⟩, ⟨ht_5, ft_5⟩, ⟨hz_0, fz_0⟩, ⟨hz_1, fz_1⟩, ⟨hz_2, fz_2⟩, ⟨hz_3, fz_3⟩, ⟨hz_4, fz_4⟩, ⟨hz_5, fz_5⟩⟩ := T
    obtain ⟨hlt, hlz⟩ := L
    obtain ⟨hnt0, hnt1, hkt1, hnt2, hkt2⟩ := ap0 hlt
    obtain ⟨hnz0, hkz1⟩ := ap1 hlz
    have hB := hB'; clear hB'
    have hsz := hB.size
    go_wp2_with fail
    apply wp_label
    go_wp2
    rw [Into.ret]
    refine bodyPost_ret (v := .tuple #[.agg #[.int .i64 l, .int .i64 c, .bool false, .bool a, .bool s, .bool g], .int .i64 0]) (by simp [results, Try.results20, go_sem, hz_0, hz_1, hz_2, hz_3, hz_4, hz_5] <;> first | done | rfl) rfl ⟨rfl, by go_grown⟩
  by_cases hc : n ≤ c
  · have _k := trivial
    rw [afterT_down _ n rfl h0 hc]
    dsimp only
    have d3 : decide (c < n) = false := by simpa using hc
    go_enter Try.func20, Try.ntmps20
    go_wp2_with fail
    refine wp_scope_hid 0 fun C hC => ?_
    go_wp2_with fail
    ((with_reducible refine (HL.out _).mono ?_); rintro _ u1 ⟨rfl, hb⟩)
    have T : CF u1 w.heap.size 0 (.int .i64 l) ∧ CF u1 w.heap.size 1 (.int .i64 c) ∧ CF u1 w.heap.size 2 (.bool true) ∧ CF u1 w.heap.size 3 (.bool a) ∧ CF u1 w.heap.size 4 (.bool s) ∧ CF u1 w.heap.size 5 (.bool g) ∧ CF u1 (w.heap.size + 1) 0 (.int .i64 0) ∧ CF u1 (w.heap.size + 1) 1 (.int .i64 0) ∧ CF u1 (w.heap.size + 1) 2 (.bool false) ∧ CF u1 (w.heap.size + 1) 3 (.bool false) ∧ CF u1 (w.heap.size + 1) 4 (.bool false) ∧ CF u1 (w.heap.size + 1) 5 (.bool false) := by
        refine ⟨⟨?_, ?_⟩, ⟨?_, ?_⟩, ⟨?_, ?_⟩, ⟨?_, ?_⟩, ⟨?_, ?_⟩, ⟨?_, ?_⟩, ⟨?_, ?_⟩, ⟨?_, ?_⟩, ⟨?_, ?_⟩, ⟨?_, ?_⟩, ⟨?_, ?_⟩, ⟨?_, ?_⟩⟩ <;> first | (refine kc hb ?_ <;> (go_simp; first | done | rfl)) | (refine kfz hb ?_ ?_ <;> first | (go_size; done) | (go_simp; done))
    have hz := hb.size
    (try simp only [World.size_alloc, World.size_setCell, World.size_drew] at hz)
    have L : w.heap.size < u1.heap.size ∧ w.heap.size + 1 < u1.heap.size := by omega
    have hB' : Below w.heap.size w u1 := by
        refine kb ?_ hb
        go_grown
    clear hb hz
    obtain ⟨⟨ht_0, ft_0⟩, ⟨ht_1, ft_1⟩, ⟨ht_2, ft_2⟩, ⟨ht_3, ft_3⟩, ⟨ht_4, ft_4⟩, ⟨ht_5, ft_5⟩, ⟨hz_0, fz_0⟩, ⟨hz_1, fz_1⟩, ⟨hz_2, fz_2⟩, ⟨hz_3, fz_3⟩, ⟨hz_4, fz_4⟩, ⟨hz_5, fz_5⟩⟩ := T
    obtain ⟨hlt, hlz⟩ := L
    obtain ⟨hnt0, hnt1, hkt1, hnt2, hkt2⟩ := ap0 hlt
    obtain ⟨hnz0, hkz1⟩ := ap1 hlz
    have hB := hB'; clear hB'
    have hsz := hB.size
    go_wp2_with fail
    ((with_reducible refine (HC.out _).mono ?_); rintro _ u2 ⟨rfl, hb⟩)
    have T : CF u2 w.heap.size 0 (.int .i64 l) ∧ CF u2 w.heap.size 1 (.int .i64 c) ∧ CF u2 w.heap.size 2 (.bool true) ∧ CF u2 w.heap.size 3 (.bool a) ∧ CF u2 w.heap.size 4 (.bool s) ∧ CF u2 w.heap.size 5 (.bool g) ∧ CF u2 (w.heap.size + 1) 0 (.int .i64 0) ∧ CF u2 (w.heap.size + 1) 1 (.int .i64 0) ∧ CF u2 (w.heap.size + 1) 2 (.bool false) ∧ CF u2 (w.heap.size + 1) 3 (.bool false) ∧ CF u2 (w.heap.size + 1) 4 (.bool false) ∧ CF u2 (w.heap.size + 1) 5 (.bool false) := by
        refine ⟨⟨?_, ?_⟩, ⟨?_, ?_⟩, ⟨?_, ?_⟩, ⟨?_, ?_⟩, ⟨?_, ?_⟩, ⟨?_, ?_⟩, ⟨?_, ?_⟩, ⟨?_, ?_⟩, ⟨?_, ?_⟩, ⟨?_, ?_⟩, ⟨?_, ?_⟩, ⟨?_, ?_⟩⟩ <;> first | (refine kc hb ?_ <;> (go_simp; first | done | rfl)) | (refine kfz hb ?_ ?_ <;> first | (go_size; done) | (go_simp; done))
    have hz := hb.size
    (try simp only [World.size_alloc, World.size_setCell, World.size_drew] at hz)
    have L : w.heap.size < u2.heap.size ∧ w.heap.size + 1 < u2.heap.size := by omega
    have hB' : Below w.heap.size w u2 := by
        refine kb ?_ hb
        go_grown
    clear ht_0 ft_0 ht_1 ft_1 ht_2 ft_2 ht_3 ft_3 ht_4 ft_4 ht_5 ft_5 hz_0 fz_0 hz_1 fz_1 hz_2 fz_2 hz_3 fz_3 hz_4 fz_4 hz_5 fz_5 hlt hlz hnt0 hnt1 hkt1 hnt2 hkt2 hnz0 hkz1 hB hsz
    clear hb hz
    obtain ⟨⟨ht_0, ft_0⟩, ⟨ht_1, ft_1⟩, ⟨ht_2, ft_2⟩, ⟨ht_3, ft_3⟩, ⟨ht_4, ft_4⟩, ⟨ht_5, ft_5⟩, ⟨hz_0, fz_0⟩, ⟨hz_1, fz_1⟩, ⟨hz_2, fz_2⟩, ⟨hz_3, fz_3⟩, ⟨hz_4, fz_4⟩, ⟨hz_5, fz_5⟩⟩ := T
    obtain ⟨hlt, hlz⟩ := L
    obtain ⟨hnt0, hnt1, hkt1, hnt2, hkt2⟩ := ap0 hlt
    obtain ⟨hnz0, hkz1⟩ := ap1 hlz
    have hB := hB'; clear hB'
    have hsz := hB.size
    go_wp2_with fail
    apply wp_label
    go_wp2
    rw [Into.ret]
    refine bodyPost_ret (v := .tuple #[.agg #[.int .i64 l, .int .i64 (c - n), .bool true, .bool a, .bool s, .bool g], .int .i64 0]) (by simp [results, Try.results20, go_sem, hz_0, hz_1, hz_2, hz_3, hz_4, hz_5] <;> first | done | rfl) rfl ⟨rfl, by go_grown⟩
  have hM0 : 0 ≤ (n - (c + 1)) % (l + 1) := Int.emod_nonneg _ (by omega)
  have hM1 : (n - (c + 1)) % (l + 1) < l + 1 := Int.emod_lt_of_pos _ (by omega)
  rw [afterT_past _ n rfl HM.out (by dsimp only; omega)]
  dsimp only
  have d3 : decide (c < n) = true := by simpa using hc
  have hcn : c < n := by omega
  obtain ⟨M, hM⟩ : ∃ M, (n - (c + 1)) % (l + 1) = M := ⟨_, rfl⟩
  rw [hM] at hM0 hM1 ⊢
  cases a
  · have _k := trivial
    have e : ringT ⟨l, c, true, false, s, g⟩ = ⟨l, 0, false, false, s, true⟩ := rfl
    rw [e, afterT_still _ _ rfl]
    dsimp only
    go_enter Try.func20, Try.ntmps20
    go_wp2_with fail
    refine wp_scope_hid 1 fun C hC => ?_
    go_wp2_with fail
    ((with_reducible refine (HL.out _).mono ?_); rintro _ u1 ⟨rfl, hb⟩)
    have T : CF u1 w.heap.size 0 (.int .i64 l) ∧ CF u1 w.heap.size 1 (.int .i64 c) ∧ CF u1 w.heap.size 2 (.bool true) ∧ CF u1 w.heap.size 3 (.bool false) ∧ CF u1 w.heap.size 4 (.bool s) ∧ CF u1 w.heap.size 5 (.bool g) ∧ CF u1 (w.heap.size + 1) 0 (.int .i64 0) ∧ CF u1 (w.heap.size + 1) 1 (.int .i64 0) ∧ CF u1 (w.heap.size + 1) 2 (.bool false) ∧ CF u1 (w.heap.size + 1) 3 (.bool false) ∧ CF u1 (w.heap.size + 1) 4 (.bool false) ∧ CF u1 (w.heap.size + 1) 5 (.bool false) := by
        refine ⟨⟨?_, ?_⟩, ⟨?_, ?_⟩, ⟨?_, ?_⟩, ⟨?_, ?_⟩, ⟨?_, ?_⟩, ⟨?_, ?_⟩, ⟨?_, ?_⟩, ⟨?_, ?_⟩, ⟨?_, ?_⟩, ⟨?_, ?_⟩, ⟨?_, ?_⟩, ⟨?_, ?_⟩⟩ <;> first | (refine kc hb ?_ <;> (go_simp; first | done | rfl)) | (refine kfz hb ?_ ?_ <;> first | (go_size; done) | (go_simp; done))
    have hz := hb.size
    (try simp only [World.size_alloc, World.size_setCell, World.size_drew] at hz)
    have L : w.heap.size < u1.heap.size ∧ w.heap.size + 1 < u1.heap.size := by omega
    have hB' : Below w.heap.size w u1 := by
        refine kb ?_ hb
        go_grown
    clear hb hz
    obtain ⟨⟨ht_0, ft_0⟩, ⟨ht_1, ft_1⟩, ⟨ht_2, ft_2⟩, ⟨ht_3, ft_3⟩, ⟨ht_4, ft_4⟩, ⟨ht_5, ft_5⟩, ⟨hz_0, fz_0⟩, ⟨hz_1, fz_1⟩, ⟨hz_2, fz_2⟩, ⟨hz_3, fz_3⟩, ⟨hz_4, fz_4⟩, ⟨hz_5, fz_5⟩⟩ := T
    obtain ⟨hlt, hlz⟩ := L
    obtain ⟨hnt0, hnt1, hkt1, hnt2, hkt2⟩ := ap0 hlt
    obtain ⟨hnz0, hkz1⟩ := ap1 hlz
    have hB := hB'; clear hB'
    have hsz := hB.size
    go_wp2_with fail
    ((with_reducible refine (HC.out _).mono ?_); rintro _ u2 ⟨rfl, hb⟩)
    have T : CF u2 w.heap.size 0 (.int .i64 l) ∧ CF u2 w.heap.size 1 (.int .i64 c) ∧ CF u2 w.heap.size 2 (.bool true) ∧ CF u2 w.heap.size 3 (.bool false) ∧ CF u2 w.heap.size 4 (.bool s) ∧ CF u2 w.heap.size 5 (.bool g) ∧ CF u2 (w.heap.size + 1) 0 (.int .i64 0) ∧ CF u2 (w.heap.size + 1) 1 (.int .i64 0) ∧ CF u2 (w.heap.size + 1) 2 (.bool false) ∧ CF u2 (w.heap.size + 1) 3 (.bool false) ∧ CF u2 (w.heap.size + 1) 4 (.bool false) ∧ CF u2 (w.heap.size + 1) 5 (.bool false) := by
        refine ⟨⟨?_, ?_⟩, ⟨?_, ?_⟩, ⟨?_, ?_⟩, ⟨?_, ?_⟩, ⟨?_, ?_⟩, ⟨?_, ?_⟩, ⟨?_, ?_⟩, ⟨?_, ?_⟩, ⟨?_, ?_⟩, ⟨?_, ?_⟩, ⟨?_, ?_⟩, ⟨?_, ?_⟩⟩ <;> first | (refine kc hb ?_ <;> (go_simp; first | done | rfl)) | (refine kfz hb ?_ ?_ <;> first | (go_size; done) | (go_simp; done))
    have hz := hb.size
    (try simp only [World.size_alloc, World.size_setCell, World.size_drew] at hz)
    have L : w.heap.size < u2.heap.size ∧ w.heap.size + 1 < u2.heap.size := by omega
    have hB' : Below w.heap.size w u2 := by
        refine kb ?_ hb
        go_grown
    clear ht_0 ft_0 ht_1 ft_1 ht_2 ft_2 ht_3 ft_3 ht_4 ft_4 ht_5 ft_5 hz_0 fz_0 hz_1 fz_1 hz_2 fz_2 hz_3 fz_3 hz_4 fz_4 hz_5 fz_5 hlt hlz hnt0 hnt1 hkt1 hnt2 hkt2 hnz0 hkz1 hB hsz
    clear hb hz
    obtain ⟨⟨ht_0, ft_0⟩, ⟨ht_1, ft_1⟩, ⟨ht_2, ft_2⟩, ⟨ht_3, ft_3⟩, ⟨ht_4, ft_4⟩, ⟨ht_5, ft_5⟩, ⟨hz_0, fz_0⟩, ⟨hz_1, fz_1⟩, ⟨hz_2, fz_2⟩, ⟨hz_3, fz_3⟩, ⟨hz_4, fz_4⟩, ⟨hz_5, fz_5⟩⟩ := T
    obtain ⟨hlt, hlz⟩ := L
    obtain ⟨hnt0, hnt1, hkt1, hnt2, hkt2⟩ := ap0 hlt
    obtain ⟨hnz0, hkz1⟩ := ap1 hlz
    have hB := hB'; clear hB'
    have hsz := hB.size
    go_wp2_with fail
    apply wp_label
    go_wp2_with fail
    have HT := Lib.hid (tickp_x w.heap.size 0 ⟨l, 0, true, false, s, g⟩ ⟨h1, by dsimp only; omega⟩)
    ((with_reducible refine (HT.out _ (Tw.mk0 (by go_simp) (by go_simp) (by go_simp) (by go_simp) (by go_simp) (by go_simp) (by go_simp) (by go_simp) (by go_simp) (by go_simp) (by go_simp) (by go_simp))).mono ?_); rintro _ u3 ⟨rfl, hb, hT⟩)
    have hs_u3 := Lib.hid hb
    have T : CF u3 (w.heap.size + 1) 0 (.int .i64 0) ∧ CF u3 (w.heap.size + 1) 1 (.int .i64 0) ∧ CF u3 (w.heap.size + 1) 2 (.bool false) ∧ CF u3 (w.heap.size + 1) 3 (.bool false) ∧ CF u3 (w.heap.size + 1) 4 (.bool false) ∧ CF u3 (w.heap.size + 1) 5 (.bool false) := by
        refine ⟨⟨?_, ?_⟩, ⟨?_, ?_⟩, ⟨?_, ?_⟩, ⟨?_, ?_⟩, ⟨?_, ?_⟩, ⟨?_, ?_⟩⟩ <;> first | (refine kg hb ?_ ?_; (· omega); (· (go_simp; first | done | rfl))) | (refine kgf hb ?_ ?_ ?_; (· omega); (· first | go_size | omega | (simp only [World.size_alloc, World.size_setCell, World.size_drew]; omega)); (· (go_simp; first | done | rfl)))
    have hz := hb.size
    (try simp only [World.size_alloc, World.size_setCell, World.size_drew] at hz)
    have L : w.heap.size + 1 < u3.heap.size := by omega
    have hB' : Below w.heap.size w u3 := by
        refine below_grown2 ?_ hb (by omega)
        go_grown
    clear ht_0 ft_0 ht_1 ft_1 ht_2 ft_2 ht_3 ft_3 ht_4 ft_4 ht_5 ft_5 hz_0 fz_0 hz_1 fz_1 hz_2 fz_2 hz_3 fz_3 hz_4 fz_4 hz_5 fz_5 hlt hlz hnt0 hnt1 hkt1 hnt2 hkt2 hnz0 hkz1 hB hsz
    clear hb hz
    obtain ⟨⟨hz_0, fz_0⟩, ⟨hz_1, fz_1⟩, ⟨hz_2, fz_2⟩, ⟨hz_3, fz_3⟩, ⟨hz_4, fz_4⟩, ⟨hz_5, fz_5⟩⟩ := T
    have hlz := L; clear L
    obtain ⟨hnz0, hnz1, hkz1, hnz2, hkz2⟩ := ap1f hlz
    have hB := hB'; clear hB'
    have hsz := hB.size
    rw [show tickT ⟨l, 0, true, false, s, g⟩ = ⟨l, 0, false, false, s, true⟩ from rfl] at hT
    have hlt3 := hT.lt
    obtain ⟨t0, t1, t2, t3, t4, t5⟩ := hT.at0
    dsimp only at t0 t1 t2 t3 t4 t5
    clear hT
    go_wp2_with fail
    refine wp_goto_hid hC rfl ?_
    go_wp2
    (try rw [Into.ret])
    refine bodyPost_ret (v := .tuple #[.agg #[.int .i64 l, .int .i64 0, .bool false, .bool false, .bool s, .bool true], .int .i64 0]) (by simp [results, Try.results20, go_sem, hz_0, hz_1, hz_2, hz_3, hz_4, hz_5] <;> first | done | rfl) rfl ⟨rfl, by go_grown⟩
  · have _k := trivial
    have e : ringT ⟨l, c, true, true, s, g⟩ = ⟨l, l, true, true, s, true⟩ := rfl
    rw [e, afterT_down _ M rfl hM0 (by dsimp only; omega)]
    dsimp only
    have d4 : decide (l < M) = false := by simp; omega
    have hlM : ¬ l < M := by omega
    go_enter Try.func20, Try.ntmps20
    go_wp2_with fail
    refine wp_scope_hid 1 fun C hC => ?_
    go_wp2_with fail
    ((with_reducible refine (HL.out _).mono ?_); rintro _ u1 ⟨rfl, hb⟩)
    have T : CF u1 w.heap.size 0 (.int .i64 l) ∧ CF u1 w.heap.size 1 (.int .i64 c) ∧ CF u1 w.heap.size 2 (.bool true) ∧ CF u1 w.heap.size 3 (.bool true) ∧ CF u1 w.heap.size 4 (.bool s) ∧ CF u1 w.heap.size 5 (.bool g) ∧ CF u1 (w.heap.size + 1) 0 (.int .i64 0) ∧ CF u1 (w.heap.size + 1) 1 (.int .i64 0) ∧ CF u1 (w.heap.size + 1) 2 (.bool false) ∧ CF u1 (w.heap.size + 1) 3 (.bool false) ∧ CF u1 (w.heap.size + 1) 4 (.bool false) ∧ CF u1 (w.heap.size + 1) 5 (.bool false) := by
        refine ⟨⟨?_, ?_⟩, ⟨?_, ?_⟩, ⟨?_, ?_⟩, ⟨?_, ?_⟩, ⟨?_, ?_⟩, ⟨?_, ?_⟩, ⟨?_, ?_⟩, ⟨?_, ?_⟩, ⟨?_, ?_⟩, ⟨?_, ?_⟩, ⟨?_, ?_⟩, ⟨?_, ?_⟩⟩ <;> first | (refine kc hb ?_ <;> (go_simp; first | done | rfl)) | (refine kfz hb ?_ ?_ <;> first | (go_size; done) | (go_simp; done))
    have hz := hb.size
    (try simp only [World.size_alloc, World.size_setCell, World.size_drew] at hz)
    have L : w.heap.size < u1.heap.size ∧ w.heap.size + 1 < u1.heap.size := by omega
    have hB' : Below w.heap.size w u1 := by
        refine kb ?_ hb
        go_grown
    clear hb hz
    obtain ⟨⟨ht_0, ft_0⟩, ⟨ht_1, ft_1⟩, ⟨ht_2, ft_2⟩, ⟨ht_3, ft_3⟩, ⟨ht_4, ft_4⟩, ⟨ht_5, ft_5⟩, ⟨hz_0, fz_0⟩, ⟨hz_1, fz_1⟩, ⟨hz_2, fz_2⟩, ⟨hz_3, fz_3⟩, ⟨hz_4, fz_4⟩, ⟨hz_5, fz_5⟩⟩ := T
    obtain ⟨hlt, hlz⟩ := L
    obtain ⟨hnt0, hnt1, hkt1, hnt2, hkt2⟩ := ap0 hlt
    obtain ⟨hnz0, hkz1⟩ := ap1 hlz
    have hB := hB'; clear hB'
    have hsz := hB.size
    go_wp2_with fail
    ((with_reducible refine (HC.out _).mono ?_); rintro _ u2 ⟨rfl, hb⟩)
    have T : CF u2 w.heap.size 0 (.int .i64 l) ∧ CF u2 w.heap.size 1 (.int .i64 c) ∧ CF u2 w.heap.size 2 (.bool true) ∧ CF u2 w.heap.size 3 (.bool true) ∧ CF u2 w.heap.size 4 (.bool s) ∧ CF u2 w.heap.size 5 (.bool g) ∧ CF u2 (w.heap.size + 1) 0 (.int .i64 0) ∧ CF u2 (w.heap.size + 1) 1 (.int .i64 0) ∧ CF u2 (w.heap.size + 1) 2 (.bool false) ∧ CF u2 (w.heap.size + 1) 3 (.bool false) ∧ CF u2 (w.heap.size + 1) 4 (.bool false) ∧ CF u2 (w.heap.size + 1) 5 (.bool false) := by
        refine ⟨⟨?_, ?_⟩, ⟨?_, ?_⟩, ⟨?_, ?_⟩, ⟨?_, ?_⟩, ⟨?_, ?_⟩, ⟨?_, ?_⟩, ⟨?_, ?_⟩, ⟨?_, ?_⟩, ⟨?_, ?_⟩, ⟨?_, ?_⟩, ⟨?_, ?_⟩, ⟨?_, ?_⟩⟩ <;> first | (refine kc hb ?_ <;> (go_simp; first | done | rfl)) | (refine kfz hb ?_ ?_ <;> first | (go_size; done) | (go_simp; done))
    have hz := hb.size
    (try simp only [World.size_alloc, World.size_setCell, World.size_drew] at hz)
    have L : w.heap.size < u2.heap.size ∧ w.heap.size + 1 < u2.heap.size := by omega
    have hB' : Below w.heap.size w u2 := by
        refine kb ?_ hb
        go_grown
    clear ht_0 ft_0 ht_1 ft_1 ht_2 ft_2 ht_3 ft_3 ht_4 ft_4 ht_5 ft_5 hz_0 fz_0 hz_1 fz_1 hz_2 fz_2 hz_3 fz_3 hz_4 fz_4 hz_5 fz_5 hlt hlz hnt0 hnt1 hkt1 hnt2 hkt2 hnz0 hkz1 hB hsz
    clear hb hz
    obtain ⟨⟨ht_0, ft_0⟩, ⟨ht_1, ft_1⟩, ⟨ht_2, ft_2⟩, ⟨ht_3, ft_3⟩, ⟨ht_4, ft_4⟩, ⟨ht_5, ft_5⟩, ⟨hz_0, fz_0⟩, ⟨hz_1, fz_1⟩, ⟨hz_2, fz_2⟩, ⟨hz_3, fz_3⟩, ⟨hz_4, fz_4⟩, ⟨hz_5, fz_5⟩⟩ := T
    obtain ⟨hlt, hlz⟩ := L
    obtain ⟨hnt0, hnt1, hkt1, hnt2, hkt2⟩ := ap0 hlt
    obtain ⟨hnz0, hkz1⟩ := ap1 hlz
    have hB := hB'; clear hB'
    have hsz := hB.size
    go_wp2_with fail
    apply wp_label
    go_wp2_with fail
    have HT := Lib.hid (tickp_x w.heap.size 0 ⟨l, 0, true, true, s, g⟩ ⟨h1, by dsimp only; omega⟩)
    ((with_reducible refine (HT.out _ (Tw.mk0 (by go_simp) (by go_simp) (by go_simp) (by go_simp) (by go_simp) (by go_simp) (by go_simp) (by go_simp) (by go_simp) (by go_simp) (by go_simp) (by go_simp))).mono ?_); rintro _ u3 ⟨rfl, hb, hT⟩)
    have hs_u3 := Lib.hid hb
    have T : CF u3 (w.heap.size + 1) 0 (.int .i64 0) ∧ CF u3 (w.heap.size + 1) 1 (.int .i64 0) ∧ CF u3 (w.heap.size + 1) 2 (.bool false) ∧ CF u3 (w.heap.size + 1) 3 (.bool false) ∧ CF u3 (w.heap.size + 1) 4 (.bool false) ∧ CF u3 (w.heap.size + 1) 5 (.bool false) := by
        refine ⟨⟨?_, ?_⟩, ⟨?_, ?_⟩, ⟨?_, ?_⟩, ⟨?_, ?_⟩, ⟨?_, ?_⟩, ⟨?_, ?_⟩⟩ <;> first | (refine kg hb ?_ ?_; (· omega); (· (go_simp; first | done | rfl))) | (refine kgf hb ?_ ?_ ?_; (· omega); (· first | go_size | omega | (simp only [World.size_alloc, World.size_setCell, World.size_drew]; omega)); (· (go_simp; first | done | rfl)))
    have hz := hb.size
    (try simp only [World.size_alloc, World.size_setCell, World.size_drew] at hz)
    have L : w.heap.size + 1 < u3.heap.size := by omega
    have hB' : Below w.heap.size w u3 := by
        refine below_grown2 ?_ hb (by omega)
        go_grown
    clear ht_0 ft_0 ht_1 ft_1 ht_2 ft_2 ht_3 ft_3 ht_4 ft_4 ht_5 ft_5 hz_0 fz_0 hz_1 fz_1 hz_2 fz_2 hz_3 fz_3 hz_4 fz_4 hz_5 fz_5 hlt hlz hnt0 hnt1 hkt1 hnt2 hkt2 hnz0 hkz1 hB hsz
    clear hb hz
    obtain ⟨⟨hz_0, fz_0⟩, ⟨hz_1, fz_1⟩, ⟨hz_2, fz_2⟩, ⟨hz_3, fz_3⟩, ⟨hz_4, fz_4⟩, ⟨hz_5, fz_5⟩⟩ := T
    have hlz := L; clear L
    obtain ⟨hnz0, hnz1, hkz1, hnz2, hkz2⟩ := ap1f hlz
    have hB := hB'; clear hB'
    have hsz := hB.size
    rw [show tickT ⟨l, 0, true, true, s, g⟩ = ⟨l, l, true, true, s, true⟩ from rfl] at hT
    have hlt3 := hT.lt
    obtain ⟨t0, t1, t2, t3, t4, t5⟩ := hT.at0
    obtain ⟨g0, g1, g2, g3, g4, g5⟩ := hT.free0
    dsimp only at t0 t1 t2 t3 t4 t5
    clear hT
    go_wp2_with fail
    refine wp_goto_hid hC rfl ?_
    go_wp2
    (try rw [Into.ret])
    refine bodyPost_ret (v := .tuple #[.agg #[.int .i64 l, .int .i64 (l - M), .bool true, .bool true, .bool s, .bool true], .int .i64 0]) (by simp [results, Try.results20, go_sem, hz_0, hz_1, hz_2, hz_3, hz_4, hz_5] <;> first | done | rfl) rfl ⟨rfl, by go_grown⟩
end Go.Proofs.Ytcpegglfgfgekaa
