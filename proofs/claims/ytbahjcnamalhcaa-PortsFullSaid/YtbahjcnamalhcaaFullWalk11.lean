/-
  PortsFull: its walk.
-/
import Derived.Test.YtbahjcnamalhcaaLoop11
set_option linter.unusedSimpArgs false
set_option linter.unusedVariables false
namespace Go.Proofs.Ytbahjcnamalhcaa
open Go.RowKit Go.PlainAid

set_option maxRecDepth 100000 in
set_option maxHeartbeats 8000000 in
theorem full_walk (reg : Int) (hr : -9223372036854775808 ≤ reg ∧ reg ≤ 9223372036854775807) (v t : Int) (hv : 0 ≤ v ∧ v ≤ 255) (ht : 0 ≤ t ∧ t ≤ 255) (n : Int) (hn : -9223372036854775808 ≤ n ∧ n ≤ 9223372036854775807) (w : World) :
    Calls Try.prog 4 #[.int .i64 reg, .agg #[.int .u8 v, .int .u8 t], .int .i64 n] w fun e w' => e = .returned (.bool true) ∧ Below w.heap.size w w' := by
  by_cases hN : 0 ≤ n ∧ n ≤ 4100
  case neg =>
    have hd : decide (n < 0) = true ∨ decide (n < 0) = false ∧ decide (4100 < n) = true := by simp; omega
    clear hN
    rcases hd with hd | ⟨hd, hd2⟩
    all_goals
      go_enter Try.func4, Try.ntmps4
      go_wp2_with fail
      refine (awake11_c _).mono ?_
      rintro _ u ⟨rfl, hb⟩
      have hB : Below w.heap.size w u := kb ((Below.refl _ _).alloc (Nat.le_refl _) _) hb
      clear hb
      go_wp2
      go_ret
      exact ⟨rfl, hB⟩
  case pos =>
    obtain ⟨M, rfl⟩ : ∃ M : Nat, n = (M : Int) := ⟨n.toNat, by omega⟩
    have hM : M ≤ 4100 := by omega
    have d1 : decide ((M : Int) < 0) = false := by simp
    have d2 : decide (4100 < (M : Int)) = false := by simp; omega
    have HN := Lib.hid (fun W => newp_c [] [] (by decide) (by decide) (.slice none 0 0) (.slice none 0 0) W (HoldsW.nil _) (HoldsW.nil _))
    have HL1 := Lib.hid (fun W a ca => newp_long 65537 0 a none ca 0 (.inl (by decide)) W)
    have HL2 := Lib.hid (fun W a ca => newp_long 0 65537 none a 0 ca (.inr (by decide)) W)
    obtain ⟨i0, hi, hz0, hz1, hz2⟩ := info_parts Try.infoU8
    clear hN hn
    go_enter Try.func4, Try.ntmps4
    go_wp2_with fail
    obtain ⟨W0, hW0⟩ : ∃ W, W = w.alloc (.cells #[.int .u8 v, .int .u8 t] 40) := ⟨_, rfl⟩
    have b0 : W0.cell? ⟨w.heap.size, 0, none⟩ = some (.int .u8 v) := by rw [hW0]; go_simp; first | done | rfl
    have b1 : W0.cell? ⟨w.heap.size, 1, none⟩ = some (.int .u8 t) := by rw [hW0]; go_simp; first | done | rfl
    have hWs : W0.heap.size = w.heap.size + 1 := by rw [hW0]; simp
    have HW0 := Lib.hid (show Below w.heap.size w W0 from by rw [hW0]; exact (Below.refl _ _).alloc (Nat.le_refl _) _)
    rw [← hW0]
    clear hW0
    refine (HN.out _).mono ?_
    rintro _ u ⟨pb, F, G, rfl, hP, hG, hpb, hb⟩
    unfold okV
    have HP := Lib.hid (And.intro hP (And.intro hG hb))
    have hBu := Below.refl u.heap.size u
    clear hP hG hb
    go_wp2_with (at_make; refine wpList_make_full _ rfl _ _ 22 rfl u.heap.size 5 i0 (.int .u8 0) 1 Try.underlying22 hi hz0 hz1 _ _ 65537 65537 65537 rfl rfl rfl rfl ?b2 ?b3 ?b4 ?_)
    case b2 => rw [hz2]; omega
    case b3 => unfold maxLen; omega
    case b4 => go_size
    intro w1 hown1 hg1
    have HB1 := Lib.hid (Below.grown hBu hg1 (by first | exact Nat.le_refl _ | go_size) (fun k hk => by cases hk))
    clear hown1 hg1 hBu
    go_wp2_with fail
    refine (HL1.out _ _ _).mono ?_
    rintro _ u2 ⟨rfl, hb⟩
    have HB2 := Lib.hid (kb HB1.out hb)
    have hBu2 := Below.refl u2.heap.size u2
    clear hb HB1
    go_wp2_with (at_make; refine wpList_make_full _ rfl _ _ 22 rfl u2.heap.size 5 i0 (.int .u8 0) 1 Try.underlying22 hi hz0 hz1 _ _ 65537 65537 65537 rfl rfl rfl rfl ?b2 ?b3 ?b4 ?_)
    case b2 => rw [hz2]; omega
    case b3 => unfold maxLen; omega
    case b4 => go_size
    intro w3 hown3 hg3
    have HB3 := Lib.hid (Below.grown hBu2 hg3 (by first | exact Nat.le_refl _ | go_size) (fun k hk => by cases hk))
    clear hown3 hg3 hBu2
    go_wp2_with fail
    refine (HL2.out _ _ _).mono ?_
    rintro _ u4 ⟨rfl, hb⟩
    have HB4 := Lib.hid (kb HB2.out (kb HB3.out hb))
    clear hb HB3 HB2
    have hsz := HP.out.2.2.size
    have hsz4 := HB4.out.size
    have HI := Lib.hid (loop_new (N := w.heap.size + 1) (W0 := W0) ((PO.frm _ _).below HP.out.1 HB4.out) fit_nil (by rw [← hWs]; exact kb HP.out.2.2 HB4.out) (by omega) (fun k hk => by have := HP.out.2.1 k hk; omega) (HoldsW.nil _) (HoldsW.nil _) (fun h => absurd rfl h) (fun h => absurd rfl h) 36)
    clear HP HB4 hsz hsz4 hpb
    go_wp2_with fail
    generalize u4.alloc (.cells #[.slice none 0 0, .slice none 0 0, .slice none 0 0, .slice none 0 0, .slice none 0 0, .slice none 0 0] 36) = U at *
    generalize u4.heap.size = rb at *
    go_loopg [14] M (fun kx s wr => ∃ k : Nat, s = .int .i64 k ∧ k ≤ M ∧ M - k ≤ kx ∧ Hid (∃ S F G x y a b c d, LoopI (w.heap.size + 1) W0 pb rb S F G x y a b c d wr))
    case atStart => exact ⟨0, by simp, Nat.zero_le _, by omega, Lib.hid ⟨_, _, _, _, _, _, _, _, _, HI.out⟩⟩
    case round =>
      obtain ⟨k, rfl, hk, hkx, HR⟩ := hrel
      obtain ⟨S, F, G, x, y, a, b, c, d, hL⟩ := HR.out
      have hLB := hL.bel
      have e0 : wr.cell? ⟨w.heap.size, 0, none⟩ = some (.int .u8 v) := (hLB.cell (p := ⟨w.heap.size, 0, none⟩) (Nat.lt_succ_self _)).trans b0
      have e1 : wr.cell? ⟨w.heap.size, 1, none⟩ = some (.int .u8 t) := (hLB.cell (p := ⟨w.heap.size, 1, none⟩) (Nat.lt_succ_self _)).trans b1
      have hle := klt e0
      have HL := Lib.hid hL
      clear hL hLB HR
      by_cases hlt : k < M
      · have hd : decide ((k : Int) < (M : Int)) = true := decide_eq_true (by omega)
        have HD := Lib.hid (does_loop (by omega) S F G x y a b c d 1 reg v t k ht wr HL.out)
        go_wp2_with fail
        refine (HD.out).mono ?_
        rintro _ u ⟨rfl, F', G', x', y', a', b', c', d', h1, h2⟩
        have H1 := Lib.hid h1
        clear h1 h2
        go_wp2
        go_roundg (M - (k + 1))
        case measure => omega
        case rel => exact ⟨k + 1, by go_num, by omega, by omega, Lib.hid ⟨_, _, _, _, _, _, _, _, _, H1.out⟩⟩
      · have hd : decide ((k : Int) < (M : Int)) = false := decide_eq_false (by omega)
        have HD := Lib.hid (does_loop (by omega) S F G x y a b c d 1 reg v t (M : Int) ht wr HL.out)
        go_wp2_with fail
        refine (HD.out).mono ?_
        rintro _ u ⟨rfl, F', G', x', y', a', b', c', d', h1, h2⟩
        have HD2 := Lib.hid (does_loop (by omega) _ _ _ _ _ _ _ _ _ 0 reg 0 0 0 (by omega) u h1)
        clear h1 h2
        go_wp2_with fail
        refine (HD2.out).mono ?_
        rintro _ u2 ⟨rfl, F', G', x', y', a', b', c', d', h1, h2⟩
        have H2 := Lib.hid h1
        clear h1 h2
        go_wp2_with fail
        refine (same_loop _ _ _ _ _ _ _ _ _ _ H2.out).mono ?_
        rintro _ u3 ⟨rfl, hb⟩
        have HB3 := Lib.hid (H2.out.below (by omega) hb)
        clear hb
        go_wp2_with fail
        refine (awake11_c _).mono ?_
        rintro _ u4 ⟨rfl, hb⟩
        have HB4 := Lib.hid (HB3.out.below (by omega) hb)
        clear hb
        go_wp2
        go_ret
        exact ⟨rfl, HW0.out.trans (HB4.out.bel.mono (by omega))⟩
end Go.Proofs.Ytbahjcnamalhcaa
