/-
  LexerBlanks returns true: the walk.
-/
import Derived.Test.YtbnmibkmddhniaaDoorBlankPure
import Derived.Test.YtbnmibkmddhniaaDoorAwake6
import Derived.Test.YtbnmibkmddhniaaDoorLawKit
set_option linter.unusedSimpArgs false
set_option linter.unusedVariables false
namespace Go.Proofs.YtbnmibkmddhniaaDoor
open Go.RowKit Go.PlainAid

theorem own_maxb {w : World} {B size n : Nat} {e : TypeId} {v : Value} {xs : List Value} (h : w.ownsRow B e size v n xs) : n ≤ 9223372036854775807 := by
  rcases h.2 with ⟨_, h2⟩ | ⟨g, cap, cur, h1, h2, h3, h4, h5, _⟩
  · omega
  · unfold maxLen at h5; omega
theorem bareT_eq (x y : Tk) (h : bareT x = bareT y) : y = ⟨x.k, x.t, x.n, y.line, y.col⟩ := by
  obtain ⟨a, b, c, d, e⟩ := x
  obtain ⟨a', b', c', d', e'⟩ := y
  unfold bareT at h
  dsimp only at h ⊢
  obtain ⟨h1, h2⟩ := Prod.mk.inj h
  obtain ⟨h3, h4⟩ := Prod.mk.inj h2
  subst h1 h3 h4
  rfl
set_option maxRecDepth 100000 in
set_option maxHeartbeats 4000000 in
theorem same_c (v1 v2 : Value) (l1 l2 : List Tk) (w : World) (h1 : HoldsT w v1 l1) (h2 : HoldsT w v2 l2) (hs : l1.map bareT = l2.map bareT) (hm : l1.length ≤ 9223372036854775807) :
    Calls Tryd.prog 14 #[v1, v2] w fun e w' => e = .returned (.bool true) ∧ Below w.heap.size w w' := by
  have hlen : l2.length = l1.length := by have := congrArg List.length hs; rw [List.length_map, List.length_map] at this; exact this.symm
  obtain ⟨p1, c1, rfl⟩ := h1.form
  obtain ⟨p2, c2, rfl⟩ := h2.form
  have H1 := Lib.hid h1
  have H2 := Lib.hid h2
  have HS := Lib.hid hs
  have HL := Lib.hid hlen
  rw [hlen]
  rw [hlen] at H2
  clear h1 h2 hs hlen
  go_enter Tryd.func14, Tryd.ntmps14
  go_wp2
  go_loopw [5] (fun i wr => ∃ k : Nat, k ≤ l1.length ∧ i = .int .i64 (k : Int) ∧ Below w.heap.size w wr) (fun i _ => l1.length - (intOf i).toNat)
  case atStart => exact ⟨0, by omega, rfl, Below.refl _ _⟩
  case round =>
    obtain ⟨k, hk, rfl, hB⟩ := hrel
    by_cases hlt : k < l1.length
    · have hd : decide ((k : Int) < (l1.length : Int)) = true := decide_eq_true (by omega)
      have hin : (0 : Int) ≤ (k : Int) ∧ (k : Int) < (l1.length : Int) := by omega
      have hx := List.getElem?_eq_getElem hlt
      have hlt2 : k < l2.length := by rw [HL.out]; exact hlt
      have hy := List.getElem?_eq_getElem hlt2
      have hbare : l2[k] = ⟨l1[k].k, l1[k].t, l1[k].n, l2[k].line, l2[k].col⟩ := by
        refine bareT_eq _ _ ?_
        have h := congrArg (fun l => l[k]?) HS.out
        simp only [List.getElem?_map, hx, hy, Option.map_some, Option.some.injEq] at h
        exact h
      rw [hbare] at hy
      rcases (H1.out.below hB) with ⟨_, hh⟩ | ⟨g1, o1, cap1, e1, hc1, h1⟩
      · rw [hh] at hlt; exact absurd hlt (by simp)
      rcases (H2.out.below hB) with ⟨_, hh⟩ | ⟨g2, o2, cap2, e2, hc2, h2⟩
      · rw [hh] at hlt2; exact absurd hlt2 (by simp)
      cases e1
      rw [HL.out] at e2
      cases e2
      obtain ⟨a0, a1, a2, a3, a4⟩ := h1 k _ hx
      obtain ⟨b0, b1, b2, b3, b4⟩ := h2 k _ hy
      clear h1 h2 hx hy hbare
      generalize l2[k].line = yl at *
      generalize l2[k].col = yc at *
      generalize l1[k] = x at *
      obtain ⟨xk, xt, xn, xl, xc⟩ := x
      dsimp only at a0 a1 a2 a3 a4 b0 b1 b2 b3 b4
      generalize txB xt = XT at *
      have q1 := run_tok_neq xk xn 0 0 XT
      have w1 : IntKind.i64.wrap ((k : Int) + 1) = (k : Int) + 1 := IntWalk.i64_in _ (by omega)
      have hB0 := hB
      have hbr : Below wr.heap.size wr wr := Below.refl _ _
      clear hlt2 hB
      go_wp2
      refine wp_region_plan (fun w' => w'.cell? ⟨g1, o1 + k * 5, none⟩ = some (.int .i64 xk) ∧ w'.cell? ⟨g1, o1 + k * 5 + 1, none⟩ = some (.string XT) ∧ w'.cell? ⟨g1, o1 + k * 5 + 2, none⟩ = some (.int .i64 xn) ∧ w'.cell? ⟨g1, o1 + k * 5 + 3, none⟩ = some (.int .i64 xl) ∧ w'.cell? ⟨g1, o1 + k * 5 + 4, none⟩ = some (.int .i64 xc) ∧ w'.cell? ⟨g2, o2 + k * 5, none⟩ = some (.int .i64 xk) ∧ w'.cell? ⟨g2, o2 + k * 5 + 1, none⟩ = some (.string XT) ∧ w'.cell? ⟨g2, o2 + k * 5 + 2, none⟩ = some (.int .i64 xn) ∧ w'.cell? ⟨g2, o2 + k * 5 + 3, none⟩ = some (.int .i64 yl) ∧ w'.cell? ⟨g2, o2 + k * 5 + 4, none⟩ = some (.int .i64 yc) ∧ Below wr.heap.size wr w') (by kernel_rfl) (by kernel_rfl) (by kernel_rfl) ?_ ?_
      · (try dsimp only)
        refine ⟨?_, ?_, ?_, ?_, ?_, ?_, ?_, ?_, ?_, ?_, ?_⟩ <;> first | (go_simp; done) | (simp [*]; done) | go_grown
      repeat (first
        | (refine Plan.val (v := ?_) ?_ ?_ ?_; rotate_left; (· rfl); (· (intro W hSw; (try dsimp only at hSw); go_simp; all_goals (first | (with_reducible rfl) | (constructor <;> (with_reducible rfl))))); (try simp only [Act.put, List.setIfInBounds_toArray, List.set_cons_zero, List.set_cons_succ]))
        | (refine Plan.no ?_ ?_; (· rfl); (try simp only [Act.put, List.setIfInBounds_toArray, List.set_cons_zero, List.set_cons_succ]))
        | (refine Plan.call (v := ?_) (f := ?_) (args := ?_) ?_ ?_ ?_ ?_; rotate_left 3; (· rfl); (· (intro W hSw; (try dsimp only at hSw); go_simp; all_goals (first | (with_reducible rfl) | (constructor <;> (with_reducible rfl))))); (· (intro W hSw; (try dsimp only at hSw); first | (go_at_call 25; ((with_reducible refine (bare_c _ _ _ _ _ _).mono ?_); rintro _ wz ⟨rfl, hb⟩; (refine ⟨?_, ?_⟩; (· with_reducible rfl); exact ⟨kc hb hSw.1, kc hb hSw.2.1, kc hb hSw.2.2.1, kc hb hSw.2.2.2.1, kc hb hSw.2.2.2.2.1, kc hb hSw.2.2.2.2.2.1, kc hb hSw.2.2.2.2.2.2.1, kc hb hSw.2.2.2.2.2.2.2.1, kc hb hSw.2.2.2.2.2.2.2.2.1, kc hb hSw.2.2.2.2.2.2.2.2.2.1, kb hSw.2.2.2.2.2.2.2.2.2.2 hb⟩))))); (try simp only [Act.put, List.setIfInBounds_toArray, List.set_cons_zero, List.set_cons_succ])))
      refine Plan.done ?_
      intro y5 T
      (try dsimp only at T)
      obtain ⟨ha_0, ha_1, ha_2, ha_3, ha_4, hb_0, hb_1, hb_2, hb_3, hb_4, hB⟩ := T
      have hsz := hB.size
      have hla := klt ha_0
      have hlb := klt hb_0
      have hna0 : ¬ (g1 = y5.heap.size) := by omega
      have hna1 : ¬ (g1 = y5.heap.size + 1) := by omega
      have hka1 : g1 < y5.heap.size + 1 := by omega
      have hna2 : ¬ (g1 = y5.heap.size + 1 + 1) := by omega
      have hka2 : g1 < y5.heap.size + 1 + 1 := by omega
      have hnb0 : ¬ (g2 = y5.heap.size) := by omega
      have hnb1 : ¬ (g2 = y5.heap.size + 1) := by omega
      have hkb1 : g2 < y5.heap.size + 1 := by omega
      have hnb2 : ¬ (g2 = y5.heap.size + 1 + 1) := by omega
      have hkb2 : g2 < y5.heap.size + 1 + 1 := by omega
      have hBn : Below w.heap.size w y5 := hB0.trans (Below.mono hB hB0.size)
      go_wp2
      go_roundw
      case rel => exact ⟨k + 1, by omega, by go_num, hBn⟩
      case measure => simp [intOf]; omega
    · have hd : decide ((k : Int) < (l1.length : Int)) = false := decide_eq_false (by omega)
      go_wp2
      go_ret
      exact ⟨rfl, hB⟩
theorem expand_on (bl rem s : List UInt8) (k : Nat) (h : k < s.length) : expand bl rem (s.drop k) = putL bl rem (at8 s k) ++ expand bl rem (s.drop (k + 1)) := by
  rw [List.drop_eq_getElem_cons h, ← at8_get s k h]
  rfl
theorem putL_len (bl rem : List UInt8) (b : UInt8) (hb : bl.length ≤ 20) (hr : rem.length ≤ 50) : (putL bl rem b).length ≤ 94 := by
  unfold putL
  split
  · rw [List.length_append, List.length_append, List.length_append, List.length_append]; simp only [List.length_cons, List.length_nil]; omega
  · simp
set_option maxRecDepth 100000 in
set_option maxHeartbeats 1000000 in
theorem blanks_out (s r : List UInt8) (n : Int) (h : 2000 < s.length ∨ 50 < r.length ∨ n < 0 ∨ 20 < n) (w : World) : Calls Tryd.prog 5 #[.string (txB s), .string (txB r), .int .i64 n] w (LawEnd w) := by
  have hz := txB_size s
  have hy := txB_size r
  have HA := Lib.hid awake_c
  have hw : decide ((2000 : Int) < ((txB s).size : Int)) = true ∨ (decide ((2000 : Int) < ((txB s).size : Int)) = false ∧ decide ((50 : Int) < ((txB r).size : Int)) = true) ∨ (decide ((2000 : Int) < ((txB s).size : Int)) = false ∧ decide ((50 : Int) < ((txB r).size : Int)) = false ∧ decide (n < 0) = true) ∨ (decide ((2000 : Int) < ((txB s).size : Int)) = false ∧ decide ((50 : Int) < ((txB r).size : Int)) = false ∧ decide (n < 0) = false ∧ decide (20 < n) = true) := by
    by_cases h1 : 2000 < s.length
    · exact .inl (decide_eq_true (by omega))
    · by_cases h2 : 50 < r.length
      · exact .inr (.inl ⟨decide_eq_false (by omega), decide_eq_true (by omega)⟩)
      · by_cases h3 : n < 0
        · exact .inr (.inr (.inl ⟨decide_eq_false (by omega), decide_eq_false (by omega), decide_eq_true h3⟩))
        · exact .inr (.inr (.inr ⟨decide_eq_false (by omega), decide_eq_false (by omega), decide_eq_false h3, decide_eq_true (by omega)⟩))
  clear h hz hy
  generalize txB s = S at *
  generalize txB r = RM at *
  rcases hw with d1 | ⟨d1, d2⟩ | ⟨d1, d2, d3⟩ | ⟨d1, d2, d3, d4⟩
  all_goals
    go_enter Tryd.func5, Tryd.ntmps5
    go_wp2_with fail
    ((with_reducible refine (HA.out _).mono ?_); rintro _ u ⟨rfl, hb⟩)
    have hz := hb.size
    (try simp only [World.size_alloc, World.size_setCell, World.size_drew] at hz)
    have hB' : Below w.heap.size w u := by
        refine kb ?_ hb
        go_grown
    clear hb hz
    have hB := hB'; clear hB'
    have hsz := hB.size
    go_wp2
    go_ret
    exact ⟨rfl, by go_grown⟩
set_option maxRecDepth 100000 in
set_option maxHeartbeats 8000000 in
theorem blanks_in (s r : List UInt8) (n : Int) (hs : s.length ≤ 2000) (hr : r.length ≤ 50) (hn0 : 0 ≤ n) (hn1 : n ≤ 20) (w : World) : Calls Tryd.prog 5 #[.string (txB s), .string (txB r), .int .i64 n] w (LawEnd w) := by
  have hz := txB_size s
  have hy := txB_size r
  have HA := Lib.hid awake_c
  have d1 : decide ((2000 : Int) < ((txB s).size : Int)) = false := decide_eq_false (by omega)
  have d2 : decide ((50 : Int) < ((txB r).size : Int)) = false := decide_eq_false (by omega)
  have d3 : decide (n < 0) = false := decide_eq_false (by omega)
  have d4 : decide (20 < n) = false := decide_eq_false (by omega)
  have HZ := Lib.hid (And.intro hz hy)
  have HL := Lib.hid (show s.length ≤ 2000 ∧ r.length ≤ 50 ∧ 0 ≤ n ∧ n ≤ 20 from ⟨hs, hr, hn0, hn1⟩)
  have HSc := Lib.hid (fun W => scanp_c s W)
  clear hz hy hs hr hn0 hn1
  generalize hS : txB s = S at *
  have HS := Lib.hid hS
  generalize hRM : txB r = RM at *
  have HRM := Lib.hid hRM
  clear hS hRM
  go_enter Tryd.func5, Tryd.ntmps5
  go_wp2
  go_loop [7, 8] (fun b i => ∃ (k : Nat) (K : Int) (X : ByteArray), b = .string X ∧ i = .int .i64 K ∧ Hid (K = k ∧ K ≤ n ∧ X = txB (List.replicate k 32))) (fun b i => (n - intOf i).toNat)
  case atStart => exact ⟨0, 0, ⟨#[]⟩, rfl, rfl, Lib.hid ⟨rfl, HL.out.2.2.1, rfl⟩⟩
  case round =>
    obtain ⟨k, K, X, rfl, rfl, HQ⟩ := hrel
    obtain ⟨q1, q2, q3⟩ := HQ.out
    have hl := HL.out
    by_cases hlt : K < n
    · have hd : decide (K < n) = true := decide_eq_true hlt
      have w3 : IntKind.i64.wrap (K + 1) = K + 1 := IntWalk.i64_in _ (by omega)
      have hXz : X.size ≤ 20 := by rw [q3, txB_size, List.length_replicate]; omega
      have HN := Lib.hid (show K + 1 = ((k + 1 : Nat) : Int) ∧ K + 1 ≤ n ∧ X ++ ({ data := #[32] } : ByteArray) = txB (List.replicate (k + 1) 32) ∧ K < n from ⟨by omega, by omega, by rw [q3, List.replicate_succ']; exact txB_append _ [32], hlt⟩)
      clear q1 q2 q3 hl hlt HQ
      go_wp2
      go_round
      case rel => exact ⟨k + 1, K + 1, _, rfl, rfl, Lib.hid ⟨HN.out.1, HN.out.2.1, HN.out.2.2.1⟩⟩
      case measure => have := HN.out; simp only [intOf]; omega
    · have hd : decide (K < n) = false := decide_eq_false hlt
      have HBl := Lib.hid (show X = txB (List.replicate k 32) ∧ k ≤ 20 from ⟨q3, by omega⟩)
      clear q1 q2 q3 hl hlt HQ
      go_wp2
      go_loop [9] (fun i => ∃ (j : Nat) (J : Int), i = .int .i64 J ∧ Hid (J = j ∧ j ≤ r.length ∧ ∀ b ∈ r.take j, b ≠ 10)) (fun i => r.length - (intOf i).toNat)
      case atStart => exact ⟨0, 0, rfl, Lib.hid ⟨rfl, by omega, fun b h => by simp at h⟩⟩
      case round =>
        obtain ⟨j, J, rfl, HQ⟩ := hrel
        obtain ⟨q1, q2, q3⟩ := HQ.out
        have hy := HZ.out.2
        have hl := HL.out
        by_cases hlt : j < r.length
        · have hd2 : decide (J < (RM.size : Int)) = true := decide_eq_true (by omega)
          have q := fun W => by have := ix_l r j hlt J q1 W; rw [HRM.out] at this; exact this
          by_cases h10 : at8 r j = 10
          · rw [h10, show bI 10 = 10 from rfl] at q
            clear q1 q2 q3 hl hlt HQ hy h10
            go_wp2_with fail
            refine (HA.out _).mono ?_
            rintro _ y4 ⟨rfl, hb⟩
            go_wp2
            go_ret
            exact ⟨rfl, hb⟩
          · have e10 : (bI (at8 r j) == 10) = false := by rw [bI_eq _ 10 10 rfl]; exact beq_eq_false_iff_ne.2 h10
            have w3 : IntKind.i64.wrap (J + 1) = J + 1 := IntWalk.i64_in _ (by omega)
            have HN := Lib.hid (show J + 1 = ((j + 1 : Nat) : Int) ∧ j + 1 ≤ r.length ∧ (∀ b ∈ r.take (j + 1), b ≠ 10) ∧ J = j ∧ j < r.length from ⟨by omega, by omega, fun b hb => by
              rw [List.take_succ_eq_append_getElem hlt] at hb
              rcases List.mem_append.1 hb with hb | hb
              · exact q3 b hb
              · obtain rfl : b = r[j] := by simpa using hb
                rw [← at8_get r j hlt]; exact h10, q1, hlt⟩)
            generalize bI (at8 r j) = bc at *
            clear q1 q2 q3 hl hlt HQ hy h10
            go_wp2
            go_round
            case rel => exact ⟨j + 1, J + 1, rfl, Lib.hid ⟨HN.out.1, HN.out.2.1, HN.out.2.2.1⟩⟩
            case measure => have := HN.out.2.2.2; simp only [intOf]; omega
        · have hd2 : decide (J < (RM.size : Int)) = false := decide_eq_false (by omega)
          have HR10 := Lib.hid (show ∀ b ∈ r, b ≠ 10 from by rw [List.take_of_length_le (by omega)] at q3; exact q3)
          clear q1 q2 q3 hl hlt HQ hy
          go_wp2
          go_loop [10, 11, 12] (fun lo m i => ∃ (j : Nat) (J LO : Int) (M : ByteArray), lo = .int .i64 LO ∧ m = .string M ∧ i = .int .i64 J ∧ Hid (J = j ∧ j ≤ s.length ∧ ∃ (acc cur : List UInt8) (done : List (List UInt8)), M = txB acc ∧ acc ++ expand (List.replicate k 32) r (s.drop j) = List.replicate k 32 ++ expand (List.replicate k 32) r s ∧ acc.length ≤ 20 + 94 * j ∧ linesA [] s = done ++ linesA cur (s.drop j) ∧ (∀ x ∈ done, x.length ≤ 900) ∧ LO = cur.length ∧ cur.length ≤ 900)) (fun lo m i => s.length - (intOf i).toNat)
          case atStart => exact ⟨0, 0, 0, X, rfl, rfl, rfl, Lib.hid ⟨rfl, by omega, List.replicate k 32, [], [], HBl.out.1, by rw [List.drop_zero], by rw [List.length_replicate]; have := HBl.out.2; omega, by rw [List.drop_zero]; rfl, (fun x h => by cases h), rfl, by simp⟩⟩
          case round =>
            obtain ⟨j, J, LO, M, rfl, rfl, rfl, HQ⟩ := hrel
            obtain ⟨q1, q2, acc, cur, done, q3, q4, q5, q6, q7, q8, q9⟩ := HQ.out
            have hl := HL.out
            have hz := HZ.out
            have hbl := HBl.out
            have hMz : M.size ≤ 200000 := by rw [q3, txB_size]; omega
            have hXz : X.size ≤ 20 := by rw [hbl.1, txB_size, List.length_replicate]; exact hbl.2
            have hRz : RM.size ≤ 50 := by omega
            by_cases hlt : j < s.length
            · have hd2 : decide (J < (S.size : Int)) = true := decide_eq_true (by omega)
              have q := fun W => by have := ix_l s j hlt J q1 W; rw [HS.out] at this; exact this
              have w3 : IntKind.i64.wrap (J + 1) = J + 1 := IntWalk.i64_in _ (by omega)
              have w4 : IntKind.i64.wrap (LO + 1) = LO + 1 := IntWalk.i64_in _ (by omega)
              have hexp := expand_on (List.replicate k 32) r s j hlt
              by_cases h10 : at8 s j = 10
              · rw [h10, show bI 10 = 10 from rfl] at q
                rw [h10] at hexp
                have hp10 : putL (List.replicate k 32) r 10 = List.replicate k 32 ++ [9, 35] ++ r ++ [10, 10] ++ List.replicate k 32 := rfl
                have hpl := putL_len (List.replicate k 32) r 10 (by rw [List.length_replicate]; exact hbl.2) hl.2.1
                have HN := Lib.hid (show J + 1 = ((j + 1 : Nat) : Int) ∧ j + 1 ≤ s.length ∧ ∃ (acc' cur : List UInt8) (done : List (List UInt8)), M ++ X ++ ({ data := #[9, 35] } : ByteArray) ++ RM ++ ({ data := #[10, 10] } : ByteArray) ++ X = txB acc' ∧ acc' ++ expand (List.replicate k 32) r (s.drop (j + 1)) = List.replicate k 32 ++ expand (List.replicate k 32) r s ∧ acc'.length ≤ 20 + 94 * (j + 1) ∧ linesA [] s = done ++ linesA cur (s.drop (j + 1)) ∧ (∀ x ∈ done, x.length ≤ 900) ∧ (0 : Int) = cur.length ∧ cur.length ≤ 900 from
                  ⟨by omega, by omega, acc ++ putL (List.replicate k 32) r 10, [], done ++ [cur], by
                    rw [q3, hbl.1, ← HRM.out, hp10]
                    simp only [← txB_append, List.append_assoc]
                    simp only [ByteArray.append_assoc], by rw [← q4, hexp, List.append_assoc], by rw [List.length_append]; omega, by rw [q6, linesA_feed s cur j hlt h10, List.append_assoc]; rfl, fun x hx => by
                      rcases List.mem_append.1 hx with hx | hx
                      · exact q7 x hx
                      · obtain rfl : x = cur := by simpa using hx
                        exact q9, rfl, by simp⟩)
                have HJ := Lib.hid (And.intro q1 hlt)
                clear q1 q2 q3 q4 q5 q6 q7 q8 q9 hl hlt HQ hz hbl hexp h10 hp10 hpl
                go_wp2
                go_round
                case rel => exact ⟨j + 1, J + 1, 0, _, rfl, rfl, rfl, HN⟩
                case measure => have := HJ.out; simp only [intOf]; omega
              · have e10 : (bI (at8 s j) == 10) = false := by rw [bI_eq _ 10 10 rfl]; exact beq_eq_false_iff_ne.2 h10
                have hp10 : putL (List.replicate k 32) r (at8 s j) = [at8 s j] := by unfold putL; rw [if_neg h10]
                obtain ⟨B1, hB1⟩ : ∃ B1, txB [at8 s j] = B1 := ⟨_, rfl⟩
                have hB1z : B1.size = 1 := by rw [← hB1]; rfl
                have hsl : ∀ W, (Instr.slice 9 (.string S) (some (.int .i64 J)) (some (.int .i64 (J + 1))) none).run Tryd.prog W = .ok (.string B1) W := fun W => by
                  rw [← HS.out, run_slice_string _ _ _ _ _ _ _ Tryd.underlying9 (by omega) (by omega) (by rw [txB_size]; omega), txB_extract, show (J + 1).toNat = j + 1 from by omega, show J.toNat = j from by omega, take_drop_snoc s j j hlt (Nat.le_refl _), take_drop_self, List.nil_append, hB1]
                by_cases h9 : LO + 1 ≤ 900
                · have c9 : decide (900 < LO + 1) = false := decide_eq_false (by omega)
                  have HN := Lib.hid (show J + 1 = ((j + 1 : Nat) : Int) ∧ j + 1 ≤ s.length ∧ ∃ (acc' cur : List UInt8) (done : List (List UInt8)), M ++ B1 = txB acc' ∧ acc' ++ expand (List.replicate k 32) r (s.drop (j + 1)) = List.replicate k 32 ++ expand (List.replicate k 32) r s ∧ acc'.length ≤ 20 + 94 * (j + 1) ∧ linesA [] s = done ++ linesA cur (s.drop (j + 1)) ∧ (∀ x ∈ done, x.length ≤ 900) ∧ LO + 1 = cur.length ∧ cur.length ≤ 900 from
                    ⟨by omega, by omega, acc ++ [at8 s j], cur ++ [at8 s j], done, by rw [q3, ← hB1, txB_append], by rw [← q4, hexp, hp10, List.append_assoc], by rw [List.length_append]; simp only [List.length_cons, List.length_nil]; omega, by rw [q6, linesA_on s cur j hlt h10], q7, by rw [List.length_append]; simp only [List.length_cons, List.length_nil]; omega, by rw [List.length_append]; simp only [List.length_cons, List.length_nil]; omega⟩)
                  have HJ := Lib.hid (And.intro q1 hlt)
                  generalize bI (at8 s j) = bc at *
                  have hB1z2 : B1.size ≤ 1 := by omega
                  clear q1 q2 q3 q4 q5 q6 q7 q8 q9 hl hlt HQ hz hbl hexp h10 hp10 hB1 h9 hB1z
                  go_wp2
                  go_round
                  case rel => exact ⟨j + 1, J + 1, LO + 1, _, rfl, rfl, rfl, HN⟩
                  case measure => have := HJ.out; simp only [intOf]; omega
                · have c9 : decide (900 < LO + 1) = true := decide_eq_true (by omega)
                  generalize bI (at8 s j) = bc at *
                  have hB1z2 : B1.size ≤ 1 := by omega
                  clear q1 q2 q3 q4 q5 q6 q7 q8 q9 hl hlt HQ hz hbl hexp h10 hp10 hB1 h9 hB1z
                  go_wp2_with fail
                  refine (HA.out _).mono ?_
                  rintro _ y4 ⟨rfl, hb⟩
                  go_wp2
                  go_ret
                  exact ⟨rfl, hb⟩
            · have hd2 : decide (J < (S.size : Int)) = false := decide_eq_false (by omega)
              have hnil : s.drop j = [] := List.drop_eq_nil_of_le (by omega)
              rw [hnil] at q4 q6
              have hlines : ∀ x ∈ linesA [] s, x.length ≤ 900 := fun x hx => by
                rw [q6] at hx
                rcases List.mem_append.1 hx with hx | hx
                · exact q7 x hx
                · obtain rfl : x = cur := by simpa [linesA] using hx
                  exact q9
              have hMM : M ++ ({ data := #[35] } : ByteArray) ++ RM = txB (List.replicate k 32 ++ expand (List.replicate k 32) r s ++ 35 :: r) := by
                rw [q3, ← HRM.out, ← q4]
                show txB acc ++ txB [35] ++ txB r = _
                rw [txB_append, txB_append]
                simp [expand]
              obtain ⟨mm, hmm⟩ : ∃ mm, List.replicate k 32 ++ expand (List.replicate k 32) r s ++ 35 :: r = mm := ⟨_, rfl⟩
              rw [hmm] at hMM
              have hsz : ((txB mm).size : Int) = (M.size : Int) + 1 + (RM.size : Int) := by
                rw [← hMM, ByteArray.size_append, ByteArray.size_append]
                show ((M.size + 1 + RM.size : Nat) : Int) = _
                omega
              rw [txB_size] at hsz
              by_cases hbig : mm.length ≤ 65536
              · have dT : decide ((65536 : Int) < (M.size : Int) + 1 + (RM.size : Int)) = false := decide_eq_false (by omega)
                have hal : Alike2 (scanD mm) (scanD s) := by
                  rw [← hmm] at hbig ⊢
                  exact blanks_alike s (List.replicate k 32) r (fun b h => (List.mem_replicate.1 h).2) (by rw [List.length_replicate]; exact hbl.2) HR10.out hl.2.1 (by omega) hlines hbig
                have HSc2 := Lib.hid (fun W => scanp_c mm W)
                rw [← hMM] at HSc2
                have HS1 := HSc
                unfold ScanEnd at HS1 HSc2
                obtain ⟨he, hbare⟩ := hal
                have HBare := Lib.hid hbare.symm
                rw [he] at HSc2
                clear he hbare
                generalize scanD mm = o2 at *
                generalize scanD s = o1 at *
                obtain ⟨L1, li1, co1, e1⟩ := o1
                obtain ⟨L2, li2, co2, e2⟩ := o2
                dsimp only at HS1 HSc2 HBare
                clear q1 q2 q3 q4 q5 q6 q7 q8 q9 hl hlt HQ hz hbl hlines hMM hnil hsz hmm hbig HR10 HSc
                go_wp2_with fail
                refine (HS1.out _).mono ?_
                rintro _ y1 ⟨v1, rfl, hown, hB1⟩
                obtain ⟨p1, c1, rfl⟩ := own_form hown
                have H1 := Lib.hid (holdsT_own hown)
                have hmx := own_maxb hown
                have hsz := hB1.size
                have hB := hB1
                clear hown hB1
                go_wp2_with fail
                ((with_reducible refine (HSc2.out _).mono ?_); rintro _ y2 ⟨v2, rfl, hown, hb⟩)
                have hs_y2 := Lib.hid hb
                have hz := hb.size
                (try simp only [World.size_alloc, World.size_setCell, World.size_drew] at hz)
                have hB' : Below w.heap.size w y2 := by
                    refine kb ?_ hb
                    go_grown
                clear hb hz
                have hB := hB'; clear hB'
                have hsz := hB.size
                obtain ⟨p2, c2, rfl⟩ := own_form hown
                have H2 := Lib.hid (holdsT_own hown)
                have H1' := Lib.hid (H1.out.below (kb ((Below.refl _ y1).alloc (Nat.le_refl _) _) hs_y2.out))
                clear hown
                go_wp2_with fail
                ((with_reducible refine (same_c _ _ L1 L2 _ (H1'.out.below ((Below.refl _ _).alloc (Nat.le_refl _) _)) (H2.out.below ((Below.refl _ _).alloc (Nat.le_refl _) _)) HBare.out hmx).mono ?_); rintro _ y3 ⟨rfl, hb⟩)
                have hz := hb.size
                (try simp only [World.size_alloc, World.size_setCell, World.size_drew] at hz)
                have hB' : Below w.heap.size w y3 := by
                    refine kb ?_ hb
                    go_grown
                clear hB hsz
                clear hb hz
                have hB := hB'; clear hB'
                have hsz := hB.size
                go_wp2_with fail
                ((with_reducible refine (HA.out _).mono ?_); rintro _ y4 ⟨rfl, hb⟩)
                have hz := hb.size
                (try simp only [World.size_alloc, World.size_setCell, World.size_drew] at hz)
                have hB' : Below w.heap.size w y4 := by
                    refine kb ?_ hb
                    go_grown
                clear hB hsz
                clear hb hz
                have hB := hB'; clear hB'
                have hsz := hB.size
                go_wp2
                go_ret
                exact ⟨rfl, hB⟩
              · have dT : decide ((65536 : Int) < (M.size : Int) + 1 + (RM.size : Int)) = true := decide_eq_true (by omega)
                clear q1 q2 q3 q4 q5 q6 q7 q8 q9 hl hlt HQ hz hbl hlines hMM hnil hsz hmm hbig
                go_wp2_with fail
                refine (HA.out _).mono ?_
                rintro _ y4 ⟨rfl, hb⟩
                go_wp2
                go_ret
                exact ⟨rfl, hb⟩
theorem blanks_walk (s : List UInt8) (hs0 : s.length ≤ 9223372036854775807) (r : List UInt8) (hr0 : r.length ≤ 9223372036854775807) (n : Int) (hn : -9223372036854775808 ≤ n ∧ n ≤ 9223372036854775807) (w : World) : Calls Tryd.prog 5 #[.string (txB s), .string (txB r), .int .i64 n] w (LawEnd w) := by
  by_cases h : 2000 < s.length ∨ 50 < r.length ∨ n < 0 ∨ 20 < n
  · exact blanks_out s r n h w
  · exact blanks_in s r n (by omega) (by omega) (by omega) (by omega) w
end Go.Proofs.YtbnmibkmddhniaaDoor
