/-
  The program's table: its cells; how it is filled.
-/
import Derived.Test.YtcilnbkmaoneaaaDoorMarkp9
set_option linter.unusedSimpArgs false
set_option linter.unusedVariables false
namespace Go.Proofs.YtcilnbkmaoneaaaDoor
open Go.RowKit Go.PlainAid

/-- A table's cells: its policy, the bits of its secrets, of its sinks. -/
structure Ta (A : Array Value) (x y : Value) (d t : Int) (S K : Int → Int) : Prop where
  sz : A.size = 131076
  c0 : A[0]? = some x
  c1 : A[1]? = some y
  c2 : A[2]? = some (.int .i64 d)
  c3 : A[3]? = some (.int .i64 t)
  s : ∀ k : Nat, k < 65536 → A[4 + k]? = some (.int .u8 (S (k : Int)))
  k : ∀ k : Nat, k < 65536 → A[65540 + k]? = some (.int .u8 (K (k : Int)))
theorem Ta.fresh (x y : Value) (d t : Int) : Ta (tabA x y (.int .i64 d) (.int .i64 t)) x y d t nilF nilF := by
  obtain ⟨h0, h1, h2, h3⟩ := tabA_head x y (.int .i64 d) (.int .i64 t)
  exact ⟨tabA_size _ _ _ _, h0, h1, h2, h3, fun k hk => tabA_at _ _ _ _ k (by omega), fun k hk => by rw [show 65540 + k = 4 + (65536 + k) by omega]; exact tabA_at _ _ _ _ _ (by omega)⟩
structure Tb (tb : Nat) (x y : Value) (d t : Int) (S K : Int → Int) (w : World) : Prop where
  row : ∃ A ty, w.heap[tb]? = some (.cells A ty (0, 0)) ∧ Ta A x y d t S K
theorem Tb.lt {tb : Nat} {x y : Value} {d t : Int} {S K : Int → Int} {w : World} (h : Tb tb x y d t S K w) : tb < w.heap.size := by
  obtain ⟨A, ty, h, _⟩ := h.row
  exact (Array.getElem?_eq_some_iff.1 h).1
theorem Tb.keep {tb : Nat} {x y : Value} {d t : Int} {S K : Int → Int} {w u : World} (h : Tb tb x y d t S K w) (hb : u.heap[tb]? = w.heap[tb]?) : Tb tb x y d t S K u := by
  obtain ⟨A, ty, h, ha⟩ := h.row
  exact ⟨A, ty, hb.trans h, ha⟩
theorem Tb.below {tb : Nat} {x y : Value} {d t : Int} {S K : Int → Int} {w u : World} (h : Tb tb x y d t S K w) (hb : Below w.heap.size w u) : Tb tb x y d t S K u := h.keep (hb.block tb h.lt)
theorem Tb.head {tb : Nat} {x y : Value} {d t : Int} {S K : Int → Int} {w : World} (h : Tb tb x y d t S K w) :
    w.cell? ⟨tb, 0, none⟩ = some x ∧ w.cell? ⟨tb, 1, none⟩ = some y ∧ w.cell? ⟨tb, 2, none⟩ = some (.int .i64 d) ∧ w.cell? ⟨tb, 3, none⟩ = some (.int .i64 t) := by
  obtain ⟨A, ty, h, ha⟩ := h.row
  rw [cell_of_row w tb _ A ty _ h, cell_of_row w tb _ A ty _ h, cell_of_row w tb _ A ty _ h, cell_of_row w tb _ A ty _ h]
  exact ⟨ha.c0, ha.c1, ha.c2, ha.c3⟩
theorem Tb.sec {tb : Nat} {x y : Value} {d t : Int} {S K : Int → Int} {w : World} (h : Tb tb x y d t S K w) (k : Nat) (hk : k < 65536) : w.cell? ⟨tb, 4 + k, none⟩ = some (.int .u8 (S (k : Int))) := by
  obtain ⟨A, ty, h, ha⟩ := h.row
  rw [cell_of_row w tb _ A ty _ h]
  exact ha.s k hk
theorem Tb.snk {tb : Nat} {x y : Value} {d t : Int} {S K : Int → Int} {w : World} (h : Tb tb x y d t S K w) (k : Nat) (hk : k < 65536) : w.cell? ⟨tb, 65540 + k, none⟩ = some (.int .u8 (K (k : Int))) := by
  obtain ⟨A, ty, h, ha⟩ := h.row
  rw [cell_of_row w tb _ A ty _ h]
  exact ha.k k hk
/-- A span stood in the one half, or the other one. -/
theorem Tb.markS {tb : Nat} {x y : Value} {d t : Int} {S K : Int → Int} {w : World} (h : Tb tb x y d t S K w) : ∃ A0 : Array Value, 4 + 65536 ≤ A0.size ∧ Row9 tb 4 A0 S w ∧ ∀ S' u, Row9 tb 4 A0 S' u → Tb tb x y d t S' K u := by
  obtain ⟨A, ty, h, ha⟩ := h.row
  refine ⟨A, by rw [ha.sz]; omega, ⟨A, ty, h, rfl, ha.s, fun j _ => rfl⟩, fun S' u hu => ?_⟩
  obtain ⟨B, t', hB, hz, h1, h2⟩ := hu
  exact ⟨B, t', hB, ⟨by rw [hz, ha.sz], by rw [h2 0 (by omega)]; exact ha.c0, by rw [h2 1 (by omega)]; exact ha.c1, by rw [h2 2 (by omega)]; exact ha.c2, by rw [h2 3 (by omega)]; exact ha.c3, h1, fun k hk => by rw [h2 _ (by omega)]; exact ha.k k hk⟩⟩
theorem Tb.markK {tb : Nat} {x y : Value} {d t : Int} {S K : Int → Int} {w : World} (h : Tb tb x y d t S K w) : ∃ A0 : Array Value, 65540 + 65536 ≤ A0.size ∧ Row9 tb 65540 A0 K w ∧ ∀ K' u, Row9 tb 65540 A0 K' u → Tb tb x y d t S K' u := by
  obtain ⟨A, ty, h, ha⟩ := h.row
  refine ⟨A, by rw [ha.sz]; omega, ⟨A, ty, h, rfl, ha.k, fun j _ => rfl⟩, fun S' u hu => ?_⟩
  obtain ⟨B, t', hB, hz, h1, h2⟩ := hu
  exact ⟨B, t', hB, ⟨by rw [hz, ha.sz], by rw [h2 0 (by omega)]; exact ha.c0, by rw [h2 1 (by omega)]; exact ha.c1, by rw [h2 2 (by omega)]; exact ha.c2, by rw [h2 3 (by omega)]; exact ha.c3, fun k hk => by rw [h2 _ (by omega)]; exact ha.s k hk, h1⟩⟩
/-- Spans that are left. -/
def Left9 (tb : Nat) (w : World) (v : Value) (l : List Sp) : Prop := (∃ p c, v = .slice p l.length c) ∧ (l ≠ [] → HoldsS w v l ∧ ∀ g, v.ownBlock = some g → g ≠ tb)
theorem Left9.of {tb : Nat} {w : World} {v : Value} {l : List Sp} (h : HoldsS w v l) (ht : w.heap.size ≤ tb) : Left9 tb w v l := by
  refine ⟨h.form, fun hl => ⟨h, fun g hg => ?_⟩⟩
  obtain ⟨g', o, cap, rfl, hc, hcell⟩ := h.some (List.length_pos_iff.2 hl)
  obtain rfl : g' = g := by simpa [Value.ownBlock] using hg
  cases l with
  | nil => exact absurd rfl hl
  | cons x r =>
    have := klt (hcell 0 x rfl 0 _ rfl)
    omega
theorem Left9.below {tb : Nat} {w u : World} {v : Value} {l : List Sp} (h : Left9 tb w v l) (hb : Below w.heap.size w u) : Left9 tb u v l := ⟨h.1, fun hl => ⟨(h.2 hl).1.below hb, (h.2 hl).2⟩⟩
theorem Left9.next {tb : Nat} {w : World} {p : Option Addr} {m c : Nat} {x : Sp} {r : List Sp} (h : Left9 tb w (.slice p m c) (x :: r)) :
    ∃ g o, p = some ⟨g, o, none⟩ ∧ m = r.length + 1 ∧ r.length + 1 ≤ c ∧ g ≠ tb ∧ g < w.heap.size ∧ (w.cell? ⟨g, o, none⟩ = some (.int .i64 x.f) ∧ w.cell? ⟨g, o + 1, none⟩ = some (.int .i64 x.t) ∧ w.cell? ⟨g, o + 2, none⟩ = some (.int .u8 x.b)) ∧
      ∀ q c', (r ≠ [] → q = some ⟨g, o + 3, none⟩) → r.length ≤ c' → Left9 tb w (.slice q r.length c') r := by
  obtain ⟨_, h2⟩ := h
  obtain ⟨h1, h2⟩ := h2 (by simp)
  obtain ⟨g, o, cap, e, hc, hcell⟩ := h1.some (by simp)
  obtain ⟨rfl, rfl, rfl⟩ := Value.slice.inj e
  have h0 : ∀ i u, x.cells[i]? = some u → w.cell? ⟨g, o + i, none⟩ = some u := fun i u hu => by
    have := hcell 0 x rfl i u hu
    rw [Nat.zero_mul, Nat.add_zero] at this
    exact this
  have hgn := h2 g rfl
  refine ⟨g, o, rfl, by simp, by simpa using hc, hgn, klt (h0 0 _ rfl), ⟨h0 0 _ rfl, h0 1 _ rfl, h0 2 _ rfl⟩, fun q c' hq hc' => ⟨⟨_, _, rfl⟩, fun hr => ?_⟩⟩
  obtain rfl := hq hr
  refine ⟨.inr ⟨g, o + 3, c', rfl, hc', fun j y hy i u hu => ?_⟩, fun g' hg' => ?_⟩
  · have := hcell (j + 1) y (by simpa using hy) i u hu
    rw [show o + (j + 1) * 3 + i = o + 3 + j * 3 + i by omega] at this
    exact this
  · obtain rfl : g = g' := by simpa [Value.ownBlock] using hg'
    exact hgn
theorem under_bp : Tryd.prog.underlying 88 = some (.pointer 67) := by kernel_rfl
theorem same_in (tb d : Nat) (W : World) : (Op.equalIn (d + 1) 88 (.pointer (some ⟨tb, 4, none⟩)) (.pointer (some ⟨tb, 4, none⟩))).run Tryd.prog W = .ok true W := by
  simp [Op.equalIn, run_underlying under_bp, sameAddr]
theorem other_in (tb d : Nat) (W : World) : (Op.equalIn (d + 1) 88 (.pointer (some ⟨tb, 65540, none⟩)) (.pointer (some ⟨tb, 4, none⟩))).run Tryd.prog W = .ok false W := by
  simp [Op.equalIn, run_underlying under_bp, sameAddr]
theorem same_half (tb : Nat) (W : World) : (binOp .eql 88 (.pointer (some ⟨tb, 4, none⟩)) (.pointer (some ⟨tb, 4, none⟩))).run Tryd.prog W = .ok (.bool true) W := by
  have h : (Op.equal 88 (.pointer (some ⟨tb, 4, none⟩)) (.pointer (some ⟨tb, 4, none⟩))).run Tryd.prog W = .ok true W := same_in tb 9999 W
  simp only [binOp]
  simp [h]
theorem other_half (tb : Nat) (W : World) : (binOp .eql 88 (.pointer (some ⟨tb, 65540, none⟩)) (.pointer (some ⟨tb, 4, none⟩))).run Tryd.prog W = .ok (.bool false) W := by
  have h : (Op.equal 88 (.pointer (some ⟨tb, 65540, none⟩)) (.pointer (some ⟨tb, 4, none⟩))).run Tryd.prog W = .ok false W := other_in tb 9999 W
  simp only [binOp]
  simp [h]
set_option maxRecDepth 100000 in
set_option maxHeartbeats 4000000 in
theorem fill_c (ps pk : List Sp) (hs : ∀ x ∈ ps, 0 ≤ x.f ∧ x.f ≤ x.t ∧ x.t ≤ 65535) (hk : ∀ x ∈ pk, 0 ≤ x.f ∧ x.f ≤ x.t ∧ x.t ≤ 65535) (tb : Nat) (x y : Value) (d t : Int) (w : World) (h : Tb tb x y d t nilF nilF w) (h1 : Left9 tb w x ps) (h2 : Left9 tb w y pk) :
    Calls Tryd.prog 25 #[.pointer (some ⟨tb, 0, none⟩)] w fun e w' => (∃ v, e = .returned v) ∧ w.grownBy w' (some tb) ∧ Tb tb x y d t (fillF nilF ps) (fillF nilF pk) w' := by
  obtain ⟨p1, q1, rfl⟩ := h1.1
  obtain ⟨p2, q2, rfl⟩ := h2.1
  obtain ⟨n1, hn1⟩ : ∃ n, ps.length = n := ⟨_, rfl⟩
  obtain ⟨n2, hn2⟩ : ∃ n, pk.length = n := ⟨_, rfl⟩
  rw [hn1] at h h1 ⊢
  rw [hn2] at h h2 ⊢
  obtain ⟨hc0, hc1, hc2, hc3⟩ := h.head
  have HP := Lib.hid h
  have H1 := Lib.hid h1
  have H2 := Lib.hid h2
  have HS := Lib.hid hs
  have HK := Lib.hid hk
  have hlt := h.lt
  have HNN := Lib.hid (And.intro hn1 hn2)
  clear h h1 h2 hs hk hn1 hn2 hc1 hc2 hc3
  have htt_0 := hc0
  have hB : Below w.heap.size w w := Below.refl _ _
  have hsz := hB.size
  clear hc0
  go_enter Tryd.func25, Tryd.ntmps25
  refine wp_scope_hid 0 fun C hC => ?_
  go_wp2_with fail
  refine wp_region_plan (fun w' => w'.cell? ⟨tb, 0, none⟩ = some (.slice p1 n1 q1) ∧ Below w.heap.size w w') (by kernel_rfl) (by kernel_rfl) (by kernel_rfl) ?_ ?_
  · (try dsimp only)
    refine ⟨?_, ?_⟩ <;> first | (go_simp; done) | (simp [*]; done) | go_grown
  repeat (first
    | (refine Plan.val (v := ?_) ?_ ?_ ?_; rotate_left; (· rfl); (· (intro W hSw; (try dsimp only at hSw); go_simp; all_goals (first | (with_reducible rfl) | (constructor <;> (with_reducible rfl)) | (rw [if_neg (by omega)]; done) | (rw [if_neg (by omega)]; with_reducible rfl)))); (try simp only [Act.put, List.setIfInBounds_toArray, List.set_cons_zero, List.set_cons_succ]))
    | (refine Plan.no ?_ ?_; (· rfl); (try simp only [Act.put, List.setIfInBounds_toArray, List.set_cons_zero, List.set_cons_succ])))
  refine Plan.done ?_
  intro u1 T
  (try dsimp only at T)
  obtain ⟨htt_0, hB⟩ := T
  have hsz := hB.size
  have hltt := klt htt_0
  obtain ⟨hntt0, hntt1, hktt1, hntt2, hktt2⟩ := ap0 hltt
  have HPu := Lib.hid (HP.out.below hB)
  have HGu := Lib.hid (grown_of9 (g := some tb) hB)
  clear hB HP
  go_wp2_with fail
  apply wp_label
  go_wp2_with fail
  go_loopg [2, 3] (n1 + n2 + 1) (fun kx s2 s3 wr => (∃ k, k ≤ n1 ∧ (n1 - k) + n2 + 1 ≤ kx ∧ s2 = .pointer (some ⟨tb, 4, none⟩) ∧ Hid (Left9 tb w s3 (ps.drop k)) ∧ Hid (Tb tb (.slice p1 n1 q1) (.slice p2 n2 q2) d t (fillF nilF (ps.take k)) nilF wr) ∧ Hid (w.grownBy wr (some tb))) ∨
    (∃ k, k ≤ n2 ∧ n2 - k ≤ kx ∧ s2 = .pointer (some ⟨tb, 65540, none⟩) ∧ Hid (Left9 tb w s3 (pk.drop k)) ∧ Hid (Tb tb (.slice p1 n1 q1) (.slice p2 n2 q2) d t (fillF nilF ps) (fillF nilF (pk.take k)) wr) ∧ Hid (w.grownBy wr (some tb))))
  case atStart => exact .inl ⟨0, by omega, by omega, by simp, Lib.hid (by rw [List.drop_zero]; exact H1.out), HPu, HGu⟩
  case round =>
    rcases hrel with ⟨k, hk, hkx, rfl, HL, HT, HG⟩ | ⟨k, hk, hkx, rfl, HL, HT, HG⟩
    · have hHN := HNN.out
      by_cases hlt : k < n1
      · have hkl : k < ps.length := by omega
        have hst : fillF nilF (ps.take (k + 1)) = markF (fillF nilF (ps.take k)) ps[k] := by rw [List.take_succ_eq_append_getElem hkl, fillF_snoc]
        have hLL := HL.out
        rw [List.drop_eq_getElem_cons hkl] at hLL
        have hxx := HS.out ps[k] (List.getElem_mem hkl)
        generalize ps[k] = x at *
        obtain ⟨⟨p0, c0, rfl⟩, -⟩ := id hLL
        generalize hrr : ps.drop (k + 1) = r at *
        obtain ⟨g, o, rfl, hm, hcap, hgt, hgw, ⟨x0, x1, x2⟩, hnx⟩ := hLL.next
        obtain ⟨xf, xt, xb⟩ := x
        dsimp only at x0 x1 x2 hxx
        have hs_0 := HG.out.cell x0 (by simpa using hgt)
        have hs_1 := HG.out.cell x1 (by simpa using hgt)
        have hs_2 := HG.out.cell x2 (by simpa using hgt)
        obtain ⟨m, hmm⟩ : ∃ m, r.length = m := ⟨_, rfl⟩
        obtain ⟨A0, hz, hrow, hback⟩ := HT.out.markS
        have HM := Lib.hid (mark_c A0 _ ⟨xf, xt, xb⟩ hxx tb 4 hz wr hrow)
        have HBK := Lib.hid hback
        have hm0 : c0 = 1 → r = [] := fun e => List.length_eq_zero_iff.1 (by omega)
        rw [hmm] at hnx hcap
        have HNX := Lib.hid (And.intro hnx (And.intro hcap (And.intro hm0 hrr)))
        have HST := Lib.hid hst
        rw [List.length_cons, hmm]
        have h0 : (0 : Int) < ((m + 1 : Nat) : Int) := by omega
        have hin : (1 : Int) ≤ ((m + 1 : Nat) : Int) := by omega
        clear x0 x1 x2 hz hrow hback hnx hst hLL hxx hrr hm hm0 hmm
        go_wp2_with fail
        refine HM.out.mono ?_
        rintro _ u ⟨⟨v, rfl⟩, hg, hr⟩
        have HG2 := Lib.hid (World.grownBy.trans HG.out hg)
        have HT2 := Lib.hid (HBK.out _ u hr)
        clear hg hr
        go_wp2
        all_goals
          go_roundg ((n1 - (k + 1)) + n2 + 1)
          case measure => omega
          case rel =>
            refine .inl ⟨k + 1, by omega, by omega, rfl, Lib.hid ?_, Lib.hid (by rw [HST.out]; exact HT2.out), HG2⟩
            rw [HNX.out.2.2.2]
            refine HNX.out.1 _ _ (fun hne => ?_) (by have := HNX.out.2.1; omega)
            first | rfl | exact absurd (HNX.out.2.2.1 (by assumption)) hne
      · have hkn : k = n1 := by omega
        have hT := HT.out
        rw [hkn, List.take_of_length_le (by omega)] at hT
        have HT' := Lib.hid hT
        have hLL := HL.out
        rw [List.drop_eq_nil_of_le (by omega)] at hLL
        obtain ⟨⟨p0, c0, rfl⟩, -⟩ := hLL
        have h0 : ¬ (0 : Int) < (([] : List Sp).length : Int) := by simp
        obtain ⟨-, hy_1, -, -⟩ := hT.head
        clear hT HT HL hkn
        have hB : Below wr.heap.size wr wr := Below.refl _ _
        have hsz := hB.size
        have htl : tb < wr.heap.size := HT'.out.lt
        have hyy_1 := hy_1
        have q0 := fun W => same_half tb W
        clear hy_1
        go_wp2_with fail
        refine wp_region_plan (fun w' => w'.cell? ⟨tb, 1, none⟩ = some (.slice p2 n2 q2) ∧ Below wr.heap.size wr w') (by kernel_rfl) (by kernel_rfl) (by kernel_rfl) ?_ ?_
        · (try dsimp only)
          refine ⟨?_, ?_⟩ <;> first | (go_simp; done) | (simp [*]; done) | go_grown
        repeat (first
          | (refine Plan.val (v := ?_) ?_ ?_ ?_; rotate_left; (· rfl); (· (intro W hSw; (try dsimp only at hSw); go_simp; all_goals (first | (with_reducible rfl) | (constructor <;> (with_reducible rfl)) | (rw [if_neg (by omega)]; done) | (rw [if_neg (by omega)]; with_reducible rfl)))); (try simp only [Act.put, List.setIfInBounds_toArray, List.set_cons_zero, List.set_cons_succ]))
          | (refine Plan.no ?_ ?_; (· rfl); (try simp only [Act.put, List.setIfInBounds_toArray, List.set_cons_zero, List.set_cons_succ])))
        refine Plan.done ?_
        intro u2 T
        (try dsimp only at T)
        obtain ⟨hyy_0, hB⟩ := T
        have hsz := hB.size
        have hlyy := klt hyy_0
        obtain ⟨hnyy0, hnyy1, hkyy1, hnyy2, hkyy2⟩ := ap0 hlyy
        have HT2 := Lib.hid (HT'.out.below hB)
        have HG2 := Lib.hid (World.grownBy.trans HG.out (grown_of9 (g := some tb) hB))
        clear hB
        go_wp2
        go_roundg n2
        case measure => omega
        case rel => exact .inr ⟨0, by omega, by omega, rfl, Lib.hid (by rw [List.drop_zero]; exact H2.out), Lib.hid HT2.out, HG2⟩
    · have hHN := HNN.out
      by_cases hlt : k < n2
      · have hkl : k < pk.length := by omega
        have hst : fillF nilF (pk.take (k + 1)) = markF (fillF nilF (pk.take k)) pk[k] := by rw [List.take_succ_eq_append_getElem hkl, fillF_snoc]
        have hLL := HL.out
        rw [List.drop_eq_getElem_cons hkl] at hLL
        have hxx := HK.out pk[k] (List.getElem_mem hkl)
        generalize pk[k] = x at *
        obtain ⟨⟨p0, c0, rfl⟩, -⟩ := id hLL
        generalize hrr : pk.drop (k + 1) = r at *
        obtain ⟨g, o, rfl, hm, hcap, hgt, hgw, ⟨x0, x1, x2⟩, hnx⟩ := hLL.next
        obtain ⟨xf, xt, xb⟩ := x
        dsimp only at x0 x1 x2 hxx
        have hs_0 := HG.out.cell x0 (by simpa using hgt)
        have hs_1 := HG.out.cell x1 (by simpa using hgt)
        have hs_2 := HG.out.cell x2 (by simpa using hgt)
        obtain ⟨m, hmm⟩ : ∃ m, r.length = m := ⟨_, rfl⟩
        obtain ⟨A0, hz, hrow, hback⟩ := HT.out.markK
        have HM := Lib.hid (mark_c A0 _ ⟨xf, xt, xb⟩ hxx tb 65540 hz wr hrow)
        have HBK := Lib.hid hback
        have hm0 : c0 = 1 → r = [] := fun e => List.length_eq_zero_iff.1 (by omega)
        rw [hmm] at hnx hcap
        have HNX := Lib.hid (And.intro hnx (And.intro hcap (And.intro hm0 hrr)))
        have HST := Lib.hid hst
        rw [List.length_cons, hmm]
        have h0 : (0 : Int) < ((m + 1 : Nat) : Int) := by omega
        have hin : (1 : Int) ≤ ((m + 1 : Nat) : Int) := by omega
        clear x0 x1 x2 hz hrow hback hnx hst hLL hxx hrr hm hm0 hmm
        go_wp2_with fail
        refine HM.out.mono ?_
        rintro _ u ⟨⟨v, rfl⟩, hg, hr⟩
        have HG2 := Lib.hid (World.grownBy.trans HG.out hg)
        have HT2 := Lib.hid (HBK.out _ u hr)
        clear hg hr
        go_wp2
        all_goals
          go_roundg (n2 - (k + 1))
          case measure => omega
          case rel =>
            refine .inr ⟨k + 1, by omega, by omega, rfl, Lib.hid ?_, Lib.hid (by rw [HST.out]; exact HT2.out), HG2⟩
            rw [HNX.out.2.2.2]
            refine HNX.out.1 _ _ (fun hne => ?_) (by have := HNX.out.2.1; omega)
            first | rfl | exact absurd (HNX.out.2.2.1 (by assumption)) hne
      · have hkn : k = n2 := by omega
        have hT := HT.out
        rw [hkn, List.take_of_length_le (by omega)] at hT
        have HT' := Lib.hid hT
        have hLL := HL.out
        rw [List.drop_eq_nil_of_le (by omega)] at hLL
        obtain ⟨⟨p0, c0, rfl⟩, -⟩ := hLL
        have h0 : ¬ (0 : Int) < (([] : List Sp).length : Int) := by simp
        have q0 := fun W => other_half tb W
        clear hT HT HL hkn
        go_wp2
        rw [Into.normal]
        go_end0
        exact ⟨⟨_, rfl⟩, HG.out, HT'.out⟩
end Go.Proofs.YtcilnbkmaoneaaaDoor
