/-
  LexerPlaces returns true: the walk.
-/
import Derived.Test.YtbnmibkmddhniaaDoorPlacePure
import Derived.Test.YtbnmibkmddhniaaDoorAwake6
import Derived.Test.YtbnmibkmddhniaaDoorLawKit
set_option linter.unusedSimpArgs false
set_option linter.unusedVariables false
namespace Go.Proofs.YtbnmibkmddhniaaDoor
open Go.RowKit Go.PlainAid

theorem Tryd.infoI : (Tryd.prog.info? 3).map (fun i => (i.zero, i.size, i.bytes)) = some (some (.int .i64 0), 1, 8) := by kernel_rfl
def natV (n : Nat) : Value := .int .i64 (n : Int)
/-- A slice that holds these numbers. -/
def HoldsN (w : World) (v : Value) (l : List Nat) : Prop := ∃ g cap, v = .slice (some ⟨g, 0, none⟩) l.length cap ∧ l.length ≤ cap ∧ ∀ (j : Nat) x, l[j]? = some x → w.cell? ⟨g, j, none⟩ = some (.int .i64 (x : Int))
theorem holdsN_own {w : World} {B : Nat} {T : TypeId} {v : Value} {l : List Nat} (h : w.ownsRow B T 1 v l.length (l.map natV)) (hne : l ≠ []) : HoldsN w v l := by
  rcases h.2 with ⟨h1, h2⟩ | ⟨g, cap, cur, h1, h2, h3, h4, _⟩
  · exact absurd (List.length_eq_zero_iff.1 h2) hne
  · refine ⟨g, cap, h1, h4, fun j x hx => ?_⟩
    have := h.cells (g := g) (by rw [h1]; rfl) j (natV x) (by rw [List.getElem?_map, hx]; rfl)
    rw [Addr.add_lit, Nat.zero_add] at this
    exact this
theorem HoldsN.below {w u : World} {v : Value} {l : List Nat} (h : HoldsN w v l) (hb : Below w.heap.size w u) : HoldsN u v l := by
  obtain ⟨g, cap, e, hc, h⟩ := h
  exact ⟨g, cap, e, hc, fun j x hx => kc hb (h j x hx)⟩
theorem begL_on (s : List UInt8) (k : Nat) (h : k < s.length) (hb : at8 s k ≠ 10) : begL (s.drop k) k = begL (s.drop (k + 1)) (k + 1) := by
  rw [List.drop_eq_getElem_cons h, ← at8_get s k h, begL, if_neg hb]
theorem begL_feed (s : List UInt8) (k : Nat) (h : k < s.length) (hb : at8 s k = 10) : begL (s.drop k) k = (k + 1) :: begL (s.drop (k + 1)) (k + 1) := by
  rw [List.drop_eq_getElem_cons h, ← at8_get s k h, begL, if_pos hb]
theorem cell1_at {W : World} (T : TypeId) (x : Value) : ∀ j u, [x][j]? = some u → (W.alloc (.cells #[x] T)).cell? ((⟨W.heap.size, 0, none⟩ : Addr).add j) = some u := by
  intro j u h
  rw [Addr.add_lit, Nat.zero_add]
  have hh := heap_alloc_new W (.cells #[x] T)
  simp only [World.cell?, hh]
  rw [← h]
  simp
theorem own_maxp {w : World} {B size n : Nat} {e : TypeId} {v : Value} {xs : List Value} (h : w.ownsRow B e size v n xs) : n ≤ 9223372036854775807 := by
  rcases h.2 with ⟨_, h2⟩ | ⟨g, cap, cur, h1, h2, h3, h4, h5, _⟩
  · omega
  · unfold maxLen at h5; omega
set_option maxRecDepth 100000 in
set_option maxHeartbeats 1000000 in
theorem places_out (l : List UInt8) (h : 1500 < l.length) (w : World) : Calls Tryd.prog 6 #[.string (txB l)] w (LawEnd w) := by
  have hz := txB_size l
  have d1 : decide ((1500 : Int) < ((txB l).size : Int)) = true := decide_eq_true (by omega)
  have HA := Lib.hid awake_c
  generalize txB l = S at *
  clear h hz
  go_enter Tryd.func6, Tryd.ntmps6
  go_wp2_with fail
  ((with_reducible refine (HA.out _).mono ?_); rintro _ u ⟨rfl, hb⟩)
  have hz := hb.size
  (try simp only [World.size_alloc, World.size_setCell, World.size_drew] at hz)
  have hB' : Below w.heap.size w u := by
      refine kb ?_ hb
      go_grown
  clear hb hz
  have hB := hB'; clear hB'
  have hsz := hB.size
  go_wp2
  go_ret
  exact ⟨rfl, by go_grown⟩
set_option maxRecDepth 100000 in
set_option maxHeartbeats 1000000 in
theorem places_err (l : List UInt8) (h : l.length ≤ 1500) (he : (scanD l).e ≠ 0) (hn : (scanD l).l = []) (w : World) : Calls Tryd.prog 6 #[.string (txB l)] w (LawEnd w) := by
  have hz := txB_size l
  have d1 : decide ((1500 : Int) < ((txB l).size : Int)) = false := decide_eq_false (by omega)
  have HA := Lib.hid awake_c
  have HS := Lib.hid (fun W => scanp_c l W)
  unfold ScanEnd at HS
  generalize scanD l = o at *
  obtain ⟨L, li, co, e⟩ := o
  dsimp only at HS he hn
  subst hn
  have e2 : (e != 0) = true := by simp [bne, he]
  generalize txB l = S at *
  clear h hz he
  go_enter Tryd.func6, Tryd.ntmps6
  go_wp2_with fail
  refine (HS.out _).mono ?_
  rintro _ u ⟨v, rfl, hown, hB⟩
  obtain ⟨p, c, rfl⟩ := own_form hown
  have hsz := hB.size
  clear hown
  go_wp2_with fail
  ((with_reducible refine (HA.out _).mono ?_); rintro _ y2 ⟨rfl, hb⟩)
  have hz := hb.size
  (try simp only [World.size_alloc, World.size_setCell, World.size_drew] at hz)
  have hB' : Below w.heap.size w y2 := by
      refine kb ?_ hb
      go_grown
  clear hb hz
  have hB := hB'; clear hB'
  have hsz := hB.size
  go_wp2
  go_ret
  exact ⟨rfl, by go_grown⟩
set_option maxRecDepth 100000 in
set_option maxHeartbeats 4000000 in
theorem places_ok (l : List UInt8) (h : l.length ≤ 1500) (he : (scanD l).e = 0) (w : World) : Calls Tryd.prog 6 #[.string (txB l)] w (LawEnd w) := by
  have hz := txB_size l
  have d1 : decide ((1500 : Int) < ((txB l).size : Int)) = false := decide_eq_false (by omega)
  have HA := Lib.hid awake_c
  have HS := Lib.hid (fun W => scanp_c l W)
  have HPl := Lib.hid (fun i x hx => places l (by omega) he i x hx)
  have HRi := Lib.hid (fun i x y hy hx => rising l (by omega) he i x y hy hx)
  have HB := Lib.hid (show 0 :: begL (l.drop 0) 0 = 0 :: begL l 0 from by rw [List.drop_zero])
  have hbl := begL_len l 0
  unfold ScanEnd at HS
  generalize scanD l = o at *
  obtain ⟨L, li, co, e⟩ := o
  dsimp only at HS he HPl HRi
  subst he
  obtain ⟨Bs, hBs⟩ : ∃ Bs, 0 :: begL l 0 = Bs := ⟨_, rfl⟩
  have HBl := Lib.hid (show Bs.length ≤ 1501 from by rw [← hBs, List.length_cons]; omega)
  rw [hBs] at HB HPl
  have HL := Lib.hid h
  have HZ := Lib.hid hz
  clear h hz hbl hBs
  generalize hS : txB l = S at *
  have HSt := Lib.hid hS
  clear hS
  obtain ⟨i0, hi, hz0, hz1, hz2⟩ := info_parts Tryd.infoI
  go_enter Tryd.func6, Tryd.ntmps6
  go_wp2_with fail
  refine (HS.out _).mono ?_
  rintro _ u ⟨v, rfl, hown, hB⟩
  obtain ⟨p, c, rfl⟩ := own_form hown
  have hsz := hB.size
  have H1 := Lib.hid (holdsT_own hown)
  have hmx := own_maxp hown
  have HB0 := Lib.hid hB
  clear hown
  go_wp2
  go_loopw [6, 7] (fun v i wr => ∃ (k : Nat) (acc : List Nat) (K : Int), i = .int .i64 K ∧ Hid (K = k ∧ k ≤ l.length ∧ acc ++ begL (l.drop k) k = Bs ∧ acc.length ≤ k + 1 ∧ acc ≠ []) ∧ Hid (wr.ownsRow u.heap.size 3 1 v acc.length (acc.map natV)) ∧ Below u.heap.size u wr) (fun v i _ => l.length - (intOf i).toNat)
  case atStart =>
    have hw0 := World.ownsRow_lit (e := 3) (size := 1) (base := u.heap.size) (u.alloc (.cells #[.int .i64 li, .int .i64 co] 25)) #[.int .i64 0] 1 (by simp) (by decide) (by rfl)
    rw [World.size_alloc] at hw0
    exact ⟨0, [0], 0, rfl, Lib.hid ⟨rfl, by omega, HB.out, by simp, by simp⟩, Lib.hid hw0, by go_grown⟩
  case round =>
    obtain ⟨k, acc, K, rfl, HQ, HO, hB3⟩ := hrel
    obtain ⟨q1, q2, q3, q4, q5⟩ := HQ.out
    have hz := HZ.out
    have hl := HL.out
    obtain ⟨p2, cp2, rfl⟩ := own_form HO.out
    by_cases hlt : k < l.length
    · have hd : decide (K < (S.size : Int)) = true := decide_eq_true (by omega)
      have q := fun W => by have := ix_l l k hlt K q1 W; rw [HSt.out] at this; exact this
      have w3 : IntKind.i64.wrap (K + 1) = K + 1 := IntWalk.i64_in _ (by omega)
      by_cases h10 : at8 l k = 10
      · rw [h10, show bI 10 = 10 from rfl] at q
        have HN := Lib.hid (show K + 1 = ((k + 1 : Nat) : Int) ∧ k + 1 ≤ l.length ∧ (acc ++ [k + 1]) ++ begL (l.drop (k + 1)) (k + 1) = Bs ∧ (acc ++ [k + 1]).length ≤ k + 1 + 1 ∧ acc ++ [k + 1] ≠ [] from
          ⟨by omega, by omega, by rw [← q3, begL_feed l k hlt h10, List.append_assoc]; rfl, by rw [List.length_append]; simp only [List.length_cons, List.length_nil]; omega, by simp⟩)
        have HQ2 := Lib.hid (show K = k ∧ k < l.length ∧ acc.length ≤ 2000 from ⟨q1, hlt, by omega⟩)
        clear q1 q2 q3 q4 q5 hz hl hlt h10 HQ
        go_wp2_with (at_builtin; refine wpList_append_own _ rfl _ _ 46 rfl u.heap.size 3 i0 _ 1 8 Tryd.underlying46 hi hz0 hz1 hz2 rfl (by decide) _ acc.length _ rfl (own_below HO.out ?c0) ⟨wr.heap.size, 0, none⟩ 1 1 [.int .i64 (K + 1)] rfl rfl ?c1 ?c2 ?c3 ?c4 ?c5 ?_)
        case c0 => exact (Below.refl _ wr).alloc (Nat.le_refl _) _
        case c1 => exact cell1_at (W := wr) 3 _
        case c2 =>
          intro x hx
          obtain rfl : x = .int .i64 (K + 1) := by simpa using hx
          rfl
        case c3 => have := HQ2.out.2.2; unfold maxLen; omega
        case c4 => have := HQ2.out.2.2; omega
        case c5 => have := hB3.size; simp; omega
        intro v' w' hown' hg _
        have hBw : Below u.heap.size u w' := Below.grown (hB3.alloc hB3.size _) hg (by have := hB3.size; simp; omega) (fun k hk => (HO.out.lt k hk).1)
        have HO' : Hid (w'.ownsRow u.heap.size 3 1 v' (acc ++ [k + 1]).length ((acc ++ [k + 1]).map natV)) := Lib.hid (by rw [List.length_append, List.map_append]; rw [HN.out.1] at hown'; exact hown')
        clear hown' hg
        go_wp2
        go_roundw
        case rel => exact ⟨k + 1, acc ++ [k + 1], K + 1, rfl, HN, HO', hBw⟩
        case measure => have := HQ2.out; simp only [intOf]; omega
      · have e10 : (bI (at8 l k) == 10) = false := by rw [bI_eq _ 10 10 rfl]; exact beq_eq_false_iff_ne.2 h10
        have HN := Lib.hid (show K + 1 = ((k + 1 : Nat) : Int) ∧ k + 1 ≤ l.length ∧ acc ++ begL (l.drop (k + 1)) (k + 1) = Bs ∧ acc.length ≤ k + 1 + 1 ∧ acc ≠ [] from
          ⟨by omega, by omega, by rw [← q3, begL_on l k hlt h10], by omega, q5⟩)
        have HQ2 := Lib.hid (show K = k ∧ k < l.length from ⟨q1, hlt⟩)
        generalize bI (at8 l k) = bc at *
        clear q1 q2 q3 q4 q5 hz hl hlt h10 HQ
        go_wp2
        go_roundw
        case rel => exact ⟨k + 1, acc, K + 1, rfl, HN, HO, hB3⟩
        case measure => have := HQ2.out; simp only [intOf]; omega
    · have hd : decide (K < (S.size : Int)) = false := decide_eq_false (by omega)
      obtain rfl : acc = Bs := by rw [← q3, List.drop_eq_nil_of_le (by omega), begL, List.append_nil]
      have HN1 := Lib.hid (holdsN_own HO.out q5)
      have HT1 := Lib.hid (H1.out.below hB3)
      obtain ⟨wo, rfl⟩ : ∃ wo : World, wo = wr := ⟨_, rfl⟩
      have HBo := Lib.hid (HB0.out.trans (Below.mono hB3 HB0.out.size))
      have hlen := HBl.out
      clear q1 q2 q3 q4 q5 hz hl hlt HQ HO hB hB3 hsz
      go_wp2
      go_loopw [9] (fun i wr => ∃ (k : Nat) (LL LC : Int), i = .int .i64 (k : Int) ∧ Hid (k ≤ L.length ∧ ((k = 0 ∧ LL = 0 ∧ LC = 0) ∨ (∃ y, 1 ≤ k ∧ L[k - 1]? = some y ∧ LL = y.line ∧ LC = y.col))) ∧ wr.cell? ⟨wo.heap.size, 0, none⟩ = some (.int .i64 LL) ∧ wr.frozen? ⟨wo.heap.size, 0, none⟩ = false ∧ wr.cell? ⟨wo.heap.size, 1, none⟩ = some (.int .i64 LC) ∧ wr.frozen? ⟨wo.heap.size, 1, none⟩ = false ∧ Below wo.heap.size wo wr) (fun i _ => L.length - (intOf i).toNat)
      case atStart => exact ⟨0, 0, 0, rfl, Lib.hid ⟨by omega, .inl ⟨rfl, rfl, rfl⟩⟩, by go_simp, by go_simp, by go_simp, by go_simp, by go_grown⟩
      case round =>
        obtain ⟨k, LL, LC, rfl, HQ, hy_0, fy_0, hy_1, fy_1, hB⟩ := hrel
        by_cases hlt : k < L.length
        · have hd2 : decide ((k : Int) < (L.length : Int)) = true := decide_eq_true (by omega)
          have hin : (0 : Int) ≤ (k : Int) ∧ (k : Int) < (L.length : Int) := by omega
          have hx := List.getElem?_eq_getElem hlt
          obtain ⟨b, at', p1, p2, p3, p4, p5, p6, p7, p8⟩ := HPl.out k _ hx
          have hri : LL < L[k].line ∨ L[k].line = LL ∧ LC < L[k].col := by
            rcases HQ.out.2 with ⟨_, r1, r2⟩ | ⟨y, r0, r1, r2, r3⟩
            · left; omega
            · have hx2 : L[k - 1 + 1]? = some L[k] := by rw [Nat.sub_add_cancel r0]; exact hx
              rcases HRi.out (k - 1) _ y r1 hx2 with h | h
              · left; omega
              · right; omega
          have HNx := Lib.hid (show k + 1 ≤ L.length ∧ ((k + 1 = 0 ∧ L[k].line = 0 ∧ L[k].col = 0) ∨ (∃ y, 1 ≤ k + 1 ∧ L[k + 1 - 1]? = some y ∧ L[k].line = y.line ∧ L[k].col = y.col)) from ⟨by omega, .inr ⟨_, by omega, hx, rfl, rfl⟩⟩)
          rcases (HT1.out.below hB) with ⟨_, hh⟩ | ⟨g1, o1, cap1, e1, hc1, h1⟩
          · rw [hh] at hlt; exact absurd hlt (by simp)
          obtain ⟨g2, cap2, e2, hc2, h2⟩ := HN1.out.below hB
          cases e1
          cases e2
          obtain ⟨a0, a1, a2, a3, a4⟩ := h1 k _ hx
          have b0 := h2 _ b p4
          rw [show (L[k].line - 1).toNat = L[k].line.toNat - 1 from by omega] at b0
          clear h1 h2 hx HQ
          generalize L[k] = x at *
          obtain ⟨xk, xt, xn, xl, xc⟩ := x
          dsimp only at p1 p2 p3 p4 p5 p6 p7 p8 hri HNx a0 a1 a2 a3 a4 b0
          have hz := HZ.out
          have hl := HL.out
          obtain ⟨AT, hAT⟩ : ∃ AT : Int, (at' : Int) = AT := ⟨_, rfl⟩
          rw [hAT] at p5
          have c1 : decide (xl < 1) = false := decide_eq_false (by omega)
          have c2 : decide ((acc.length : Int) < xl) = false := decide_eq_false (by omega)
          have c3 : decide (xc < 1) = false := decide_eq_false (by omega)
          have c4 : decide (xl < LL) = false := decide_eq_false (by omega)
          have c6 : decide ((S.size : Int) < AT) = false := decide_eq_false (by omega)
          have w1 : IntKind.i64.wrap (xl - 1) = xl - 1 := IntWalk.i64_in _ (by omega)
          have w2 : IntKind.i64.wrap ((b : Int) + xc) = (b : Int) + xc := IntWalk.i64_in _ (by omega)
          have w3 : IntKind.i64.wrap ((b : Int) + xc - 1) = AT := by rw [← p5]; exact IntWalk.i64_in _ (by omega)
          have w4 : IntKind.i64.wrap ((k : Int) + 1) = (k : Int) + 1 := IntWalk.i64_in _ (by omega)
          have hin2 : (0 : Int) ≤ xl - 1 ∧ xl - 1 < (acc.length : Int) := by omega
          have hi1 : (1 : Int) ≤ xl := p1
          have hi2 : xl - 1 < (acc.length : Int) := by omega
          have hi3 : (0 : Int) ≤ xl - 1 := by omega
          have hi4 : xl ≤ (acc.length : Int) := by omega
          have hAT0 : (0 : Int) ≤ AT := by omega
          have hmd : (decide (LL < xl) = true ∧ (xl == LL) = false) ∨ ((xl == LL) = true ∧ decide (xc ≤ LC) = false) := by
            rcases hri with h | h
            · exact .inl ⟨decide_eq_true h, beq_eq_false_iff_ne.2 (by omega)⟩
            · exact .inr ⟨beq_iff_eq.2 h.1, decide_eq_false (by omega)⟩
          have hts := txB_size xt
          have hkind : ((xk == 1) = true ∧ (xk == 3) = false ∧ IntKind.i64.wrap (AT + ((txB xt).size : Int)) = AT + ((txB xt).size : Int) ∧ decide ((S.size : Int) < AT + ((txB xt).size : Int)) = false ∧ (∀ W, (Instr.slice 9 (.string S) (some (.int .i64 AT)) (some (.int .i64 (AT + ((txB xt).size : Int)))) none).run Tryd.prog W = .ok (.string (txB xt)) W)) ∨
              ((xk == 1) = false ∧ (xk == 3) = true ∧ IntKind.i64.wrap (AT + 2) = AT + 2 ∧ decide ((S.size : Int) < AT + 2) = false ∧ (∀ W, (Instr.slice 9 (.string S) (some (.int .i64 AT)) (some (.int .i64 (AT + 2))) none).run Tryd.prog W = .ok (.string ⟨#[46, 46]⟩) W)) ∨ ((xk == 1) = false ∧ (xk == 3) = false) := by
            by_cases k1 : xk = 1
            · left
              obtain ⟨r1, r2⟩ := p7 k1
              refine ⟨beq_iff_eq.2 k1, beq_eq_false_iff_ne.2 (by omega), IntWalk.i64_in _ (by omega), decide_eq_false (by omega), fun W => ?_⟩
              rw [← HSt.out, run_slice_string _ _ _ _ _ _ _ Tryd.underlying9 (by omega) (by omega) (by rw [txB_size l]; omega), txB_extract]
              rw [show (AT + ((txB xt).size : Int)).toNat = at' + xt.length from by omega, show AT.toNat = at' from by omega, List.drop_take, Nat.add_sub_cancel_left, r2]
            · by_cases k3 : xk = 3
              · right; left
                obtain ⟨r1, r2⟩ := p8 k3
                refine ⟨beq_eq_false_iff_ne.2 k1, beq_iff_eq.2 k3, IntWalk.i64_in _ (by omega), decide_eq_false (by omega), fun W => ?_⟩
                rw [← HSt.out, run_slice_string _ _ _ _ _ _ _ Tryd.underlying9 (by omega) (by omega) (by rw [txB_size l]; omega), txB_extract]
                rw [show (AT + 2).toNat = at' + 2 from by omega, show AT.toNat = at' from by omega, List.drop_take, Nat.add_sub_cancel_left, r2]
              · right; right
                exact ⟨beq_eq_false_iff_ne.2 k1, beq_eq_false_iff_ne.2 k3⟩
          have HMs := Lib.hid (show (k : Int) + 1 = ((k + 1 : Nat) : Int) ∧ k < L.length from ⟨by omega, hlt⟩)
          generalize txB xt = T at *
          generalize (b : Int) = BI at *
          have hsz := hB.size
          have hlg1 := klt a0
          have hlg2 := klt b0
          have hly := klt hy_0
          have hBw := hB
          clear p1 p2 p3 p4 p5 p6 p7 p8 hri hz hl hts hAT hlt hlen hc1 hc2
          rcases hmd with ⟨m1, m2⟩ | ⟨m2, m3⟩ <;> rcases hkind with ⟨n1, n3, n4, n5, n6⟩ | ⟨n1, n3, n4, n5, n6⟩ | ⟨n1, n3⟩
          all_goals
            skip
            go_wp2
            refine wp_region_plan (fun w' => w'.cell? ⟨g1, o1 + k * 5, none⟩ = some (.int .i64 xk) ∧ w'.cell? ⟨g1, o1 + k * 5 + 1, none⟩ = some (.string T) ∧ w'.cell? ⟨g1, o1 + k * 5 + 2, none⟩ = some (.int .i64 xn) ∧ w'.cell? ⟨g1, o1 + k * 5 + 3, none⟩ = some (.int .i64 xl) ∧ w'.cell? ⟨g1, o1 + k * 5 + 4, none⟩ = some (.int .i64 xc) ∧ w'.cell? ⟨g2, xl.toNat - 1, none⟩ = some (.int .i64 BI) ∧ w'.cell? ⟨wo.heap.size, 0, none⟩ = some (.int .i64 LL) ∧ w'.frozen? ⟨wo.heap.size, 0, none⟩ = false ∧ w'.cell? ⟨wo.heap.size, 1, none⟩ = some (.int .i64 LC) ∧ w'.frozen? ⟨wo.heap.size, 1, none⟩ = false ∧ w'.cell? ⟨wr.heap.size, 0, none⟩ = some (.int .i64 xl) ∧ w'.cell? ⟨wr.heap.size, 1, none⟩ = some (.int .i64 xc) ∧ Below wo.heap.size wo w') (by kernel_rfl) (by kernel_rfl) (by kernel_rfl) ?_ ?_
            · (try dsimp only)
              refine ⟨?_, ?_, ?_, ?_, ?_, ?_, ?_, ?_, ?_, ?_, ?_, ?_, ?_⟩ <;> first | (go_simp; done) | (simp [*]; done) | go_grown
            repeat (first
              | (refine Plan.val (v := ?_) ?_ ?_ ?_; rotate_left; (· rfl); (· (intro W hSw; (try dsimp only at hSw); go_simp; all_goals (first | (with_reducible rfl) | (constructor <;> (with_reducible rfl))))); (try simp only [Act.put, List.setIfInBounds_toArray, List.set_cons_zero, List.set_cons_succ]))
              | (refine Plan.no ?_ ?_; (· rfl); (try simp only [Act.put, List.setIfInBounds_toArray, List.set_cons_zero, List.set_cons_succ])))
            refine Plan.done ?_
            intro y5 T
            (try dsimp only at T)
            obtain ⟨hx_0, hx_1, hx_2, hx_3, hx_4, hg_0, hy_0, fy_0, hy_1, fy_1, hp_0, hp_1, hB⟩ := T
            have hsz := hB.size
            have hlx := klt hx_0
            have hlg := klt hg_0
            have hly := klt hy_0
            have hlp := klt hp_0
            have hnx0 : ¬ (g1 = y5.heap.size) := by omega
            have hnx1 : ¬ (g1 = y5.heap.size + 1) := by omega
            have hkx1 : g1 < y5.heap.size + 1 := by omega
            have hnx2 : ¬ (g1 = y5.heap.size + 1 + 1) := by omega
            have hkx2 : g1 < y5.heap.size + 1 + 1 := by omega
            have hng0 : ¬ (g2 = y5.heap.size) := by omega
            have hng1 : ¬ (g2 = y5.heap.size + 1) := by omega
            have hkg1 : g2 < y5.heap.size + 1 := by omega
            have hng2 : ¬ (g2 = y5.heap.size + 1 + 1) := by omega
            have hkg2 : g2 < y5.heap.size + 1 + 1 := by omega
            have hny0 : ¬ (wo.heap.size = y5.heap.size) := by omega
            have hny1 : ¬ (wo.heap.size = y5.heap.size + 1) := by omega
            have hky1 : wo.heap.size < y5.heap.size + 1 := by omega
            have hny2 : ¬ (wo.heap.size = y5.heap.size + 1 + 1) := by omega
            have hky2 : wo.heap.size < y5.heap.size + 1 + 1 := by omega
            have hnp0 : ¬ (wr.heap.size = y5.heap.size) := by omega
            have hnp1 : ¬ (wr.heap.size = y5.heap.size + 1) := by omega
            have hkp1 : wr.heap.size < y5.heap.size + 1 := by omega
            have hnp2 : ¬ (wr.heap.size = y5.heap.size + 1 + 1) := by omega
            have hkp2 : wr.heap.size < y5.heap.size + 1 + 1 := by omega
            go_wp2
            go_roundw
            case rel => exact ⟨k + 1, xl, xc, by rw [HMs.out.1], HNx, by go_simp, by go_simp, by go_simp, by go_simp, (hB.setCell (by simp) _).setCell (by simp) _⟩
            case measure => have := HMs.out; simp only [intOf]; omega
        · have hd2 : decide ((k : Int) < (L.length : Int)) = false := decide_eq_false (by omega)
          have hsz := hB.size
          clear HQ
          go_wp2_with fail
          refine (HA.out _).mono ?_
          rintro _ y4 ⟨rfl, hb⟩
          go_wp2
          go_ret
          exact ⟨rfl, kb (HBo.out.trans (Below.mono hB HBo.out.size)) hb⟩
theorem places_walk (l : List UInt8) (hl : l.length ≤ 9223372036854775807) (w : World) : Calls Tryd.prog 6 #[.string (txB l)] w (LawEnd w) := by
  by_cases h1 : 1500 < l.length
  · exact places_out l h1 w
  · by_cases he : (scanD l).e = 0
    · exact places_ok l (by omega) he w
    · exact places_err l (by omega) he (scanD_nil l he) w
end Go.Proofs.YtbnmibkmddhniaaDoor
