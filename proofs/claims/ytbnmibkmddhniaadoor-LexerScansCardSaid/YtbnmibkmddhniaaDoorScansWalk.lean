/-
  LexerScans returns true: the walk.
-/
import Derived.Test.YtbnmibkmddhniaaDoorAwake6
import Derived.Test.YtbnmibkmddhniaaDoorRef4
import Derived.Test.YtbnmibkmddhniaaDoorLawKit
set_option linter.unusedSimpArgs false
set_option linter.unusedVariables false
namespace Go.Proofs.YtbnmibkmddhniaaDoor
open Go.RowKit Go.PlainAid

theorem own_max {w : World} {B size n : Nat} {e : TypeId} {v : Value} {xs : List Value} (h : w.ownsRow B e size v n xs) : n ≤ 9223372036854775807 := by
  rcases h.2 with ⟨_, h2⟩ | ⟨g, cap, cur, h1, h2, h3, h4, h5, _⟩
  · omega
  · unfold maxLen at h5; omega
set_option maxRecDepth 100000 in
set_option maxHeartbeats 1000000 in
theorem scans_out (l : List UInt8) (h : 3000 < l.length ∧ l.length ≠ 65537) (w : World) : Calls Tryd.prog 3 #[.string (txB l)] w (LawEnd w) := by
  have hz := txB_size l
  have d1 : decide ((3000 : Int) < ((txB l).size : Int)) = true := decide_eq_true (by omega)
  have d2 : (((txB l).size : Int) != 65537) = true := by simp [bne]; omega
  have HA := Lib.hid awake_c
  generalize txB l = S at *
  clear h hz
  go_enter Tryd.func3, Tryd.ntmps3
  go_wp2_with fail
  ((with_reducible refine (HA.out _).mono ?_); rintro _ u ⟨rfl, hb⟩)
  have hz := hb.size
  (try simp only [World.size_alloc, World.size_setCell, World.size_drew] at hz)
  have hB' : Below w.heap.size w u := by
      refine kb ?_ hb
      go_grown
  clear hb hz
  have hB := hB'; clear hB'
  have hsz := hB.size
  go_wp2
  go_ret
  exact ⟨rfl, by go_grown⟩
set_option maxRecDepth 100000 in
set_option maxHeartbeats 1000000 in
theorem scans_long (l : List UInt8) (h : l.length = 65537) (w : World) : Calls Tryd.prog 3 #[.string (txB l)] w (LawEnd w) := by
  have hz := txB_size l
  have d1 : decide ((3000 : Int) < ((txB l).size : Int)) = true := decide_eq_true (by omega)
  have d2 : (((txB l).size : Int) != 65537) = false := by simp [bne]; omega
  have d3 : decide ((65536 : Int) < ((txB l).size : Int)) = true := decide_eq_true (by omega)
  have HS := Lib.hid (fun W => scanp_c l W)
  rw [scanD_long l (by omega)] at HS
  unfold ScanEnd at HS
  dsimp only at HS
  have HA := Lib.hid awake_c
  generalize txB l = S at *
  clear h hz
  go_enter Tryd.func3, Tryd.ntmps3
  go_wp2_with fail
  refine (HS.out _).mono ?_
  rintro _ u ⟨v, rfl, hown, hB⟩
  obtain ⟨p, c, rfl⟩ := own_form hown
  have hsz := hB.size
  clear hown
  go_wp2_with fail
  ((with_reducible refine (HA.out _).mono ?_); rintro _ y2 ⟨rfl, hb⟩)
  have hz := hb.size
  (try simp only [World.size_alloc, World.size_setCell, World.size_drew] at hz)
  have hB' : Below w.heap.size w y2 := by
      refine kb ?_ hb
      go_grown
  clear hb hz
  have hB := hB'; clear hB'
  have hsz := hB.size
  go_wp2
  go_ret
  exact ⟨rfl, by go_grown⟩
set_option maxRecDepth 100000 in
set_option maxHeartbeats 4000000 in
theorem scans_short (l : List UInt8) (h : l.length ≤ 3000) (w : World) : Calls Tryd.prog 3 #[.string (txB l)] w (LawEnd w) := by
  have hz := txB_size l
  have d1 : decide ((3000 : Int) < ((txB l).size : Int)) = false := decide_eq_false (by omega)
  have d3 : decide ((65536 : Int) < ((txB l).size : Int)) = false := decide_eq_false (by omega)
  have HS := Lib.hid (fun W => scanp_c l W)
  have HR := Lib.hid (fun W => scanr_c l (by omega) W)
  unfold ScanEnd at HS HR
  have HA := Lib.hid awake_c
  generalize scanD l = o at *
  obtain ⟨L, li, co, e⟩ := o
  dsimp only at HS HR
  generalize txB l = S at *
  clear h hz
  go_enter Tryd.func3, Tryd.ntmps3
  go_wp2_with fail
  refine (HS.out _).mono ?_
  rintro _ u ⟨v, rfl, hown, hB⟩
  obtain ⟨p, c, rfl⟩ := own_form hown
  have hsz := hB.size
  have H1 := Lib.hid (holdsT_own hown)
  have hmx := own_max hown
  clear hown
  go_wp2_with fail
  ((with_reducible refine (HR.out _).mono ?_); rintro _ y2 ⟨v2, rfl, hown, hb⟩)
  have hs_y2 := Lib.hid hb
  have T : y2.cell? ⟨u.heap.size, 0, none⟩ = some (.int .i64 li) ∧ y2.cell? ⟨u.heap.size, 1, none⟩ = some (.int .i64 co) := by
      refine ⟨?_, ?_⟩ <;> refine kc hb ?_ <;> (go_simp; first | done | rfl)
  have hz := hb.size
  (try simp only [World.size_alloc, World.size_setCell, World.size_drew] at hz)
  have hlz' : u.heap.size < y2.heap.size := by omega
  have hB' : Below w.heap.size w y2 := by
      refine kb ?_ hb
      go_grown
  clear hb hz
  obtain ⟨hz_0, hz_1⟩ := T
  have hlz := hlz'; clear hlz'
  have hnz0 : ¬ (u.heap.size = y2.heap.size) := by omega
  have hnz1 : ¬ (u.heap.size = y2.heap.size + 1) := by omega
  have hkz1 : u.heap.size < y2.heap.size + 1 := by omega
  have hnz2 : ¬ (u.heap.size = y2.heap.size + 1 + 1) := by omega
  have hkz2 : u.heap.size < y2.heap.size + 1 + 1 := by omega
  have hB := hB'; clear hB'
  have hsz := hB.size
  obtain ⟨p2, c2, rfl⟩ := own_form hown
  have H2 := Lib.hid (holdsT_own hown)
  have H1' := Lib.hid (H1.out.below (kb ((Below.refl _ u).alloc (Nat.le_refl _) _) hs_y2.out))
  clear hown
  go_wp2
  have HB0 := Lib.hid hB
  go_loopw [9] (fun i wr => ∃ k : Nat, k ≤ L.length ∧ i = .int .i64 (k : Int) ∧ Below y2.heap.size y2 wr) (fun i _ => L.length - (intOf i).toNat)
  case atStart => exact ⟨0, by omega, rfl, (Below.refl _ y2).alloc (Nat.le_refl _) _⟩
  case round =>
    obtain ⟨k, hk, rfl, hB3⟩ := hrel
    by_cases hlt : k < L.length
    · have hd : decide ((k : Int) < (L.length : Int)) = true := decide_eq_true (by omega)
      have hin : (0 : Int) ≤ (k : Int) ∧ (k : Int) < (L.length : Int) := by omega
      have hx := List.getElem?_eq_getElem hlt
      rcases (H1'.out.below hB3) with ⟨_, hh⟩ | ⟨g1, o1, cap1, e1, hc1, h1⟩
      · rw [hh] at hlt; exact absurd hlt (by simp)
      rcases (H2.out.below hB3) with ⟨_, hh⟩ | ⟨g2, o2, cap2, e2, hc2, h2⟩
      · rw [hh] at hlt; exact absurd hlt (by simp)
      cases e1
      cases e2
      obtain ⟨a0, a1, a2, a3, a4⟩ := h1 k _ hx
      obtain ⟨b0, b1, b2, b3, b4⟩ := h2 k _ hx
      clear h1 h2 hx
      generalize L[k] = x at *
      obtain ⟨xk, xt, xn, xl, xc⟩ := x
      dsimp only at a0 a1 a2 a3 a4 b0 b1 b2 b3 b4
      generalize txB xt = XT at *
      have hbr : Below wr.heap.size wr wr := Below.refl _ _
      have q1 := run_ref_neq xk xn xl xc XT
      go_wp2
      refine wp_region_plan (fun w' => w'.cell? ⟨g1, o1 + k * 5, none⟩ = some (.int .i64 xk) ∧ w'.cell? ⟨g1, o1 + k * 5 + 1, none⟩ = some (.string XT) ∧ w'.cell? ⟨g1, o1 + k * 5 + 2, none⟩ = some (.int .i64 xn) ∧ w'.cell? ⟨g1, o1 + k * 5 + 3, none⟩ = some (.int .i64 xl) ∧ w'.cell? ⟨g1, o1 + k * 5 + 4, none⟩ = some (.int .i64 xc) ∧ w'.cell? ⟨g2, o2 + k * 5, none⟩ = some (.int .i64 xk) ∧ w'.cell? ⟨g2, o2 + k * 5 + 1, none⟩ = some (.string XT) ∧ w'.cell? ⟨g2, o2 + k * 5 + 2, none⟩ = some (.int .i64 xn) ∧ w'.cell? ⟨g2, o2 + k * 5 + 3, none⟩ = some (.int .i64 xl) ∧ w'.cell? ⟨g2, o2 + k * 5 + 4, none⟩ = some (.int .i64 xc) ∧ Below wr.heap.size wr w') (by kernel_rfl) (by kernel_rfl) (by kernel_rfl) ?_ ?_
      · (try dsimp only)
        refine ⟨?_, ?_, ?_, ?_, ?_, ?_, ?_, ?_, ?_, ?_, ?_⟩ <;> first | (go_simp; done) | (simp [*]; done) | go_grown
      repeat (first
        | (refine Plan.val (v := ?_) ?_ ?_ ?_; rotate_left; (· rfl); (· (intro W hSw; (try dsimp only at hSw); go_simp; all_goals (first | (with_reducible rfl) | (constructor <;> (with_reducible rfl))))); (try simp only [Act.put, List.setIfInBounds_toArray, List.set_cons_zero, List.set_cons_succ]))
        | (refine Plan.no ?_ ?_; (· rfl); (try simp only [Act.put, List.setIfInBounds_toArray, List.set_cons_zero, List.set_cons_succ]))
        | (refine Plan.call (v := ?_) (f := ?_) (args := ?_) ?_ ?_ ?_ ?_; rotate_left 3; (· rfl); (· (intro W hSw; (try dsimp only at hSw); go_simp; all_goals (first | (with_reducible rfl) | (constructor <;> (with_reducible rfl))))); (· (intro W hSw; (try dsimp only at hSw); first | (go_at_call 10; ((with_reducible refine (plain_c xk xn xl xc XT _).mono ?_); rintro _ wz ⟨rfl, hb⟩; (refine ⟨?_, ?_⟩; (· with_reducible rfl); exact ⟨kc hb hSw.1, kc hb hSw.2.1, kc hb hSw.2.2.1, kc hb hSw.2.2.2.1, kc hb hSw.2.2.2.2.1, kc hb hSw.2.2.2.2.2.1, kc hb hSw.2.2.2.2.2.2.1, kc hb hSw.2.2.2.2.2.2.2.1, kc hb hSw.2.2.2.2.2.2.2.2.1, kc hb hSw.2.2.2.2.2.2.2.2.2.1, kb hSw.2.2.2.2.2.2.2.2.2.2 hb⟩))))); (try simp only [Act.put, List.setIfInBounds_toArray, List.set_cons_zero, List.set_cons_succ])))
      refine Plan.done ?_
      intro y5 T
      (try dsimp only at T)
      clear hz_0 hz_1 hlz hnz0 hnz1 hkz1 hnz2 hkz2 hB hsz
      obtain ⟨ha_0, ha_1, ha_2, ha_3, ha_4, hb_0, hb_1, hb_2, hb_3, hb_4, hB⟩ := T
      have hsz := hB.size
      have hla := klt ha_0
      have hlb := klt hb_0
      have hna0 : ¬ (g1 = y5.heap.size) := by omega
      have hna1 : ¬ (g1 = y5.heap.size + 1) := by omega
      have hka1 : g1 < y5.heap.size + 1 := by omega
      have hna2 : ¬ (g1 = y5.heap.size + 1 + 1) := by omega
      have hka2 : g1 < y5.heap.size + 1 + 1 := by omega
      have hnb0 : ¬ (g2 = y5.heap.size) := by omega
      have hnb1 : ¬ (g2 = y5.heap.size + 1) := by omega
      have hkb1 : g2 < y5.heap.size + 1 := by omega
      have hnb2 : ¬ (g2 = y5.heap.size + 1 + 1) := by omega
      have hkb2 : g2 < y5.heap.size + 1 + 1 := by omega
      have hBn : Below y2.heap.size y2 y5 := hB3.trans (Below.mono hB hB3.size)
      have w1 : IntKind.i64.wrap ((k : Int) + 1) = (k : Int) + 1 := IntWalk.i64_in _ (by omega)
      go_wp2
      go_roundw
      case rel => exact ⟨k + 1, by omega, by go_num, hBn⟩
      case measure => simp [intOf]; omega
    · have hd : decide ((k : Int) < (L.length : Int)) = false := decide_eq_false (by omega)
      have hBw := HB0.out.trans (Below.mono hB3 HB0.out.size)
      clear hB hB3 hsz
      go_wp2_with fail
      refine (HA.out _).mono ?_
      rintro _ y4 ⟨rfl, hb⟩
      go_wp2
      go_ret
      exact ⟨rfl, kb hBw hb⟩
theorem scans_walk (l : List UInt8) (w : World) : Calls Tryd.prog 3 #[.string (txB l)] w (LawEnd w) := by
  by_cases h1 : l.length ≤ 3000
  · exact scans_short l h1 w
  · by_cases h2 : l.length = 65537
    · exact scans_long l h2 w
    · exact scans_out l ⟨by omega, h2⟩ w
end Go.Proofs.YtbnmibkmddhniaaDoor
