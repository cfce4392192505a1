/-
  The law's same: whether ports have just what the document's answer has.
-/
import Derived.Test.YtbahjcnamalhcaaLow11
import Derived.Test.YtbahjcnamalhcaaBytes11
set_option linter.unusedSimpArgs false
set_option linter.unusedVariables false
namespace Go.Proofs.Ytbahjcnamalhcaa
open Go.RowKit Go.PlainAid

/-- What the document's ports tell, wherever their slices lie. -/
structure Vc (rb : Nat) (S : Po) (x y a b c d : Value) (w : World) : Prop where
  c0 : w.cell? ⟨rb, 0, none⟩ = some x
  c1 : w.cell? ⟨rb, 1, none⟩ = some y
  c2 : w.cell? ⟨rb, 2, none⟩ = some a
  c3 : w.cell? ⟨rb, 3, none⟩ = some b
  c4 : w.cell? ⟨rb, 4, none⟩ = some c
  c5 : w.cell? ⟨rb, 5, none⟩ = some d
  hx : HoldsW bE 1 w x S.pub
  hy : HoldsW bE 1 w y S.sec
  ha : HoldsW bE 1 w a S.out
  hb : HoldsW kE 2 w b S.kept
  hc : HoldsW cE 1 w c S.cyc
  hd : HoldsW bE 1 w d S.told
def Vw (rb : Nat) (S : Po) (w : World) : Prop := ∃ x y a b c d, Vc rb S x y a b c d w
theorem Vc.below {rb : Nat} {S : Po} {x y a b c d : Value} {w u : World} (h : Vc rb S x y a b c d w) (hb : Below w.heap.size w u) : Vc rb S x y a b c d u :=
  ⟨kc hb h.c0, kc hb h.c1, kc hb h.c2, kc hb h.c3, kc hb h.c4, kc hb h.c5, h.hx.below hb, h.hy.below hb, h.ha.below hb, h.hb.below hb, h.hc.below hb, h.hd.below hb⟩
theorem DO.view {rb : Nat} {S : Po} {F G : Nat → Prop} {w : World} (h : DO rb S F G w) : Vw rb S w := by
  obtain ⟨x, y, a, b, c, d, h, -, -⟩ := h
  obtain ⟨⟨k2, o2⟩, ⟨k3, o3⟩, ⟨k4, o4⟩, k5, o5⟩ := h.hold.at0
  exact ⟨x, y, a, b, c, d, h.p.c, h.s.c, k2, k3, k4, k5, h.p.h, h.s.h, HoldsW.own bE_len o2, HoldsW.own kE_len o3, HoldsW.own cE_len o4, HoldsW.own bE_len o5⟩
def kAns (v : Value) : KdR := .any v (fun u => u = v) (fun x _ => x.v = v)
theorem kAns_fine (v : Value) : (kAns v).Fine := ⟨rfl, fun x W w1 h hb => h, fun _ _ h => h⟩
set_option maxRecDepth 100000 in
set_option maxHeartbeats 16000000 in
theorem same11_c (pb rb : Nat) (S : Po) (hS : Fit S) (F G : Nat → Prop) (w : World) (h : PO pb S F G w) (hv : Vw rb S w) :
    Calls Try.prog 12 #[.pointer (some ⟨pb, 0, none⟩), .pointer (some ⟨rb, 0, none⟩)] w fun e w' => e = .returned (.bool true) ∧ Below w.heap.size w w' := by
  have hlog := hS.log
  have hcyc := hS.cyc
  have HFit := Lib.hid hS
  have HO := Lib.hid h
  obtain ⟨x, y, a, b, c, d, hv⟩ := hv
  have HV := Lib.hid hv
  have HK := Lib.hid (fun W (hW : Below w.heap.size w W) => out_k pb S hS F G W ((PO.frm _ _).below h hW))
  have HLg := Lib.hid (fun W (hW : Below w.heap.size w W) => out_e pb S hS F G W ((PO.frm _ _).below h hW))
  have HOut := Lib.hid (fun W (hW : Below w.heap.size w W) => out_b pb S hS F G W ((PO.frm _ _).below h hW))
  have HLf := Lib.hid (fun reg W (hW : Below w.heap.size w W) => left_c pb S F G reg W ((PO.frm _ _).below h hW))
  have HBy := Lib.hid (fun v W (hW : Below w.heap.size w W) (hv' : HoldsW bE 1 W v S.out) => bytes11_c S.out (by have := hS.out; omega) v a W hv' (hv.ha.below hW))
  have e2 : leftP S 2 = 0 := rfl
  have e3 : leftP S (-1) = 0 := rfl
  have e4 : leftP S 5 = 0 := rfl
  have HL0 := Lib.hid (fun W hW => HLf.out 0 W hW)
  have HL1 := Lib.hid (fun W hW => HLf.out 1 W hW)
  have HL2 := Lib.hid (fun W hW => HLf.out 2 W hW)
  have HL3 := Lib.hid (fun W hW => HLf.out (-1) W hW)
  have HL4 := Lib.hid (fun W hW => HLf.out 5 W hW)
  rw [show leftP S 0 = S.pub.length from rfl] at HL0
  rw [show leftP S 1 = S.sec.length from rfl] at HL1
  rw [e2] at HL2
  rw [e3] at HL3
  rw [e4] at HL4
  clear e2 e3 e4 HLf
  have k0 := hv.c0
  have k1 := hv.c1
  have k2 := hv.c2
  have k3 := hv.c3
  have k4 := hv.c4
  have k5 := hv.c5
  obtain ⟨px, cx, rfl⟩ := hv.hx.form
  obtain ⟨py, cy, rfl⟩ := hv.hy.form
  obtain ⟨pa, ca, rfl⟩ := hv.ha.form
  obtain ⟨pk, ck, rfl⟩ := hv.hb.form
  obtain ⟨pc, cc, rfl⟩ := hv.hc.form
  obtain ⟨pd, cd, rfl⟩ := hv.hd.form
  have hlr := klt k0
  clear h hv
  rw [hlog] at HLg
  rw [hcyc] at k4 HV
  have hb0 := hS.pub
  have hb1 := hS.sec
  have hb2 := hS.out
  have hb3 := hS.kept
  have hb5 := hS.told
  generalize hn0 : S.pub.length = n0 at *
  generalize hn1 : S.sec.length = n1 at *
  generalize hn2 : S.out.length = n2 at *
  generalize hn3 : S.kept.length = n3 at *
  generalize hn5 : S.told.length = n5 at *
  have HN := Lib.hid (And.intro hn3 (And.intro hn5 (And.intro hcyc hlog)))
  have HN2 := Lib.hid hn2
  clear hn0 hn1 hn2 hn3 hn5 hcyc hlog hS
  go_enter Try.func12, Try.ntmps12
  go_wp2_with fail
  refine (HK.out _ (Below.refl _ _)).mono ?_
  rintro _ u ⟨vk, rfl, hk, hb⟩
  have HB1 := Lib.hid hb
  have HK1 := Lib.hid (HoldsW.own (enc := kE) (l := S.kept) kE_len (by rw [HN.out.1]; exact hk))
  obtain ⟨qk, dk, rfl⟩ := own_form hk
  clear hk hb
  go_wp2_with fail
  refine (HLg.out _ HB1.out).mono ?_
  rintro _ u2 ⟨vl, rfl, hl, hb⟩
  have HB2 := Lib.hid (kb HB1.out hb)
  have HK2 := Lib.hid (HK1.out.below hb)
  have HL := Lib.hid (HoldsW.own (enc := eE) (l := S.log) eE_len (by rw [HN.out.2.2.2]; exact hl))
  obtain ⟨ql, dl, rfl⟩ := own_form hl
  clear hl hb HK1
  have k0 := kc HB2.out k0
  have k1 := kc HB2.out k1
  have k2 := kc HB2.out k2
  have k3 := kc HB2.out k3
  have k5 := kc HB2.out k5
  go_wp2_with fail
  refine wp_region_planD 9 59 (fun W => W.cell? ⟨rb, 0, none⟩ = some (.slice px n0 cx) ∧ W.cell? ⟨rb, 1, none⟩ = some (.slice py n1 cy) ∧ W.cell? ⟨rb, 2, none⟩ = some (.slice pa n2 ca) ∧ W.cell? ⟨rb, 3, none⟩ = some (.slice pk n3 ck) ∧ W.cell? ⟨rb, 5, none⟩ = some (.slice pd n5 cd) ∧ Below w.heap.size w W ∧ Below u2.heap.size u2 W)
    [.val (.pointer (some ⟨pb, 0, none⟩)), kRow 5 1 n2 (S.out.flatMap bE), .val (.pointer (some ⟨rb, 0, none⟩)), .val (.pointer (some ⟨rb, 0, none⟩)), .val (.pointer (some ⟨rb, 2, none⟩)), .val (.slice pa n2 ca), kAns (.bool true), .val (.bool false), .val (.bool false), .val (.slice qk n3 dk), .val (.int .i64 n3), .val (.pointer (some ⟨rb, 0, none⟩)), .val (.pointer (some ⟨rb, 0, none⟩)), .val (.pointer (some ⟨rb, 3, none⟩)), .val (.slice pk n3 ck), .val (.int .i64 n3), .val (.bool false), .val (.bool false), .val (.bool false), .val (.slice ql n5 dl), .val (.int .i64 n5), .val (.pointer (some ⟨rb, 0, none⟩)), .val (.pointer (some ⟨rb, 0, none⟩)), .val (.pointer (some ⟨rb, 5, none⟩)), .val (.slice pd n5 cd), .val (.int .i64 n5), .val (.bool false), .val (.bool false), .val (.bool false), .val (.pointer (some ⟨pb, 0, none⟩)), kAns (.int .i64 (n0 : Nat)), .val (.pointer (some ⟨rb, 0, none⟩)), .val (.pointer (some ⟨rb, 0, none⟩)), .val (.pointer (some ⟨rb, 0, none⟩)), .val (.slice px n0 cx), .val (.int .i64 n0), .val (.bool false), .val (.bool false), .val (.bool false), .val (.pointer (some ⟨pb, 0, none⟩)), kAns (.int .i64 (n1 : Nat)), .val (.pointer (some ⟨rb, 0, none⟩)), .val (.pointer (some ⟨rb, 0, none⟩)), .val (.pointer (some ⟨rb, 1, none⟩)), .val (.slice py n1 cy), .val (.int .i64 n1), .val (.bool false), .val (.bool false), .val (.bool false), .val (.pointer (some ⟨pb, 0, none⟩)), kAns (.int .i64 0), .val (.pointer (some ⟨pb, 0, none⟩)), kAns (.int .i64 0), .val (.int .i64 0), .val (.pointer (some ⟨pb, 0, none⟩)), kAns (.int .i64 0), .val (.int .i64 0), .val (.bool false), .val (.bool false)]
    (by kernel_rfl) (by kernel_rfl) (by kernel_rfl) (by kernel_rfl) (by kernel_rfl) (fun W w1 h hb => ⟨kc hb h.1, kc hb h.2.1, kc hb h.2.2.1, kc hb h.2.2.2.1, kc hb h.2.2.2.2.1, h.2.2.2.2.2.1.trans (hb.mono h.2.2.2.2.2.1.size), h.2.2.2.2.2.2.trans (hb.mono h.2.2.2.2.2.2.size)⟩) ?_ ?_ ?_
  · intro k hk
    simp only [List.mem_cons, List.not_mem_nil, or_false] at hk
    rcases hk with rfl | rfl | rfl | rfl | rfl | rfl | rfl | rfl | rfl | rfl | rfl | rfl | rfl | rfl | rfl | rfl | rfl | rfl | rfl | rfl | rfl | rfl | rfl | rfl | rfl | rfl | rfl | rfl | rfl | rfl | rfl | rfl | rfl | rfl | rfl | rfl | rfl | rfl | rfl | rfl | rfl | rfl | rfl | rfl | rfl | rfl | rfl | rfl | rfl | rfl | rfl | rfl | rfl | rfl | rfl | rfl | rfl | rfl | rfl <;> first | exact trivial | exact kRow_fine _ _ _ _ | exact kAns_fine _
  · exact ⟨k0, k1, k2, k3, k5, Below.drew HB2.out, Below.drew (Below.refl _ _)⟩
  (try simp only [List.append_eq, List.cons_append, List.nil_append, List.toList_toArray, List.take_succ_cons, List.take_zero, List.drop_succ_cons, List.drop_zero])
  (iterate 1 (refine PlanR.val ?_ ?_ ?_; (· rfl); (· (intro W hSw; (try dsimp only at hSw); go_simp; all_goals (first | (with_reducible rfl) | (constructor <;> (with_reducible rfl))))); intro _ _; (try simp only [Act.put, List.setIfInBounds_toArray, List.set_cons_zero, List.set_cons_succ])))
  refine PlanR.any ?_ ?_ ?_
  · rfl
  · intro W hSw _
    (try dsimp only at hSw)
    go_simp
    refine ⟨rfl, (HOut.out W hSw.2.2.2.2.2.1).mono ?_⟩
    rintro _ u ⟨v', rfl, hv', hb⟩
    exact ⟨_, rfl, hb, hv', fun b hb2 => (hv'.lt b hb2).2⟩
  rintro ⟨vo, loo, hio⟩ _
  (try simp only [Act.put, List.setIfInBounds_toArray, List.set_cons_zero, List.set_cons_succ])
  (iterate 4 (refine PlanR.val ?_ ?_ ?_; (· rfl); (· (intro W hSw; (try dsimp only at hSw); go_simp; all_goals (first | (with_reducible rfl) | (constructor <;> (with_reducible rfl))))); intro _ _; (try simp only [Act.put, List.setIfInBounds_toArray, List.set_cons_zero, List.set_cons_succ])))
  refine PlanR.any ?_ ?_ ?_
  · rfl
  · intro W hSw hKn
    (try dsimp only at hSw)
    have hvo : HoldsW bE 1 W vo S.out := HoldsW.own bE_len (by rw [HN2.out]; exact (hKn 1 (by decide) (by kernel_rfl)).1)
    go_simp
    refine ⟨rfl, (HBy.out vo W hSw.2.2.2.2.2.1 hvo).mono ?_⟩
    rintro _ u ⟨rfl, hb⟩
    exact ⟨_, rfl, hb, rfl⟩
  rintro ⟨_, lo6, hi6⟩ rfl
  (try simp only [Act.put, List.setIfInBounds_toArray, List.set_cons_zero, List.set_cons_succ])
  (iterate 23 (refine PlanR.val ?_ ?_ ?_; (· rfl); (· (intro W hSw; (try dsimp only at hSw); go_simp; all_goals (first | (with_reducible rfl) | (constructor <;> (with_reducible rfl))))); intro _ _; (try simp only [Act.put, List.setIfInBounds_toArray, List.set_cons_zero, List.set_cons_succ])))
  refine PlanR.any ?_ ?_ ?_
  · rfl
  · intro W hSw hKn
    (try dsimp only at hSw)
    skip
    go_simp
    refine ⟨rfl, (HL0.out W hSw.2.2.2.2.2.1).mono ?_⟩
    rintro _ u ⟨rfl, hb⟩
    exact ⟨_, rfl, hb, rfl⟩
  rintro ⟨_, lo30, hi30⟩ rfl
  (try simp only [Act.put, List.setIfInBounds_toArray, List.set_cons_zero, List.set_cons_succ])
  (iterate 9 (refine PlanR.val ?_ ?_ ?_; (· rfl); (· (intro W hSw; (try dsimp only at hSw); go_simp; all_goals (first | (with_reducible rfl) | (constructor <;> (with_reducible rfl))))); intro _ _; (try simp only [Act.put, List.setIfInBounds_toArray, List.set_cons_zero, List.set_cons_succ])))
  refine PlanR.any ?_ ?_ ?_
  · rfl
  · intro W hSw hKn
    (try dsimp only at hSw)
    skip
    go_simp
    refine ⟨rfl, (HL1.out W hSw.2.2.2.2.2.1).mono ?_⟩
    rintro _ u ⟨rfl, hb⟩
    exact ⟨_, rfl, hb, rfl⟩
  rintro ⟨_, lo40, hi40⟩ rfl
  (try simp only [Act.put, List.setIfInBounds_toArray, List.set_cons_zero, List.set_cons_succ])
  (iterate 9 (refine PlanR.val ?_ ?_ ?_; (· rfl); (· (intro W hSw; (try dsimp only at hSw); go_simp; all_goals (first | (with_reducible rfl) | (constructor <;> (with_reducible rfl))))); intro _ _; (try simp only [Act.put, List.setIfInBounds_toArray, List.set_cons_zero, List.set_cons_succ])))
  refine PlanR.any ?_ ?_ ?_
  · rfl
  · intro W hSw hKn
    (try dsimp only at hSw)
    skip
    go_simp
    refine ⟨rfl, (HL2.out W hSw.2.2.2.2.2.1).mono ?_⟩
    rintro _ u ⟨rfl, hb⟩
    exact ⟨_, rfl, hb, rfl⟩
  rintro ⟨_, lo50, hi50⟩ rfl
  (try simp only [Act.put, List.setIfInBounds_toArray, List.set_cons_zero, List.set_cons_succ])
  (iterate 1 (refine PlanR.val ?_ ?_ ?_; (· rfl); (· (intro W hSw; (try dsimp only at hSw); go_simp; all_goals (first | (with_reducible rfl) | (constructor <;> (with_reducible rfl))))); intro _ _; (try simp only [Act.put, List.setIfInBounds_toArray, List.set_cons_zero, List.set_cons_succ])))
  refine PlanR.any ?_ ?_ ?_
  · rfl
  · intro W hSw hKn
    (try dsimp only at hSw)
    skip
    go_simp
    refine ⟨rfl, (HL3.out W hSw.2.2.2.2.2.1).mono ?_⟩
    rintro _ u ⟨rfl, hb⟩
    exact ⟨_, rfl, hb, rfl⟩
  rintro ⟨_, lo52, hi52⟩ rfl
  (try simp only [Act.put, List.setIfInBounds_toArray, List.set_cons_zero, List.set_cons_succ])
  (iterate 2 (refine PlanR.val ?_ ?_ ?_; (· rfl); (· (intro W hSw; (try dsimp only at hSw); go_simp; all_goals (first | (with_reducible rfl) | (constructor <;> (with_reducible rfl))))); intro _ _; (try simp only [Act.put, List.setIfInBounds_toArray, List.set_cons_zero, List.set_cons_succ])))
  refine PlanR.any ?_ ?_ ?_
  · rfl
  · intro W hSw hKn
    (try dsimp only at hSw)
    skip
    go_simp
    refine ⟨rfl, (HL4.out W hSw.2.2.2.2.2.1).mono ?_⟩
    rintro _ u ⟨rfl, hb⟩
    exact ⟨_, rfl, hb, rfl⟩
  rintro ⟨_, lo55, hi55⟩ rfl
  (try simp only [Act.put, List.setIfInBounds_toArray, List.set_cons_zero, List.set_cons_succ])
  (iterate 3 (refine PlanR.val ?_ ?_ ?_; (· rfl); (· (intro W hSw; (try dsimp only at hSw); go_simp; all_goals (first | (with_reducible rfl) | (constructor <;> (with_reducible rfl))))); intro _ _; (try simp only [Act.put, List.setIfInBounds_toArray, List.set_cons_zero, List.set_cons_succ])))
  refine PlanR.done ?_
  intro u3 GG
  obtain ⟨k0, k1, k2, k3, k5, hB, hB2⟩ := GG.s
  clear GG
  have HV3 := Lib.hid (HV.out.below hB)
  have k4 := HV3.out.c4
  have HK3 := Lib.hid (HK2.out.below hB2)
  have HL3' := Lib.hid (HL.out.below hB2)
  have HB3 := Lib.hid hB
  have hlr3 := klt k0
  clear HK2 HL hB hB2 HK HLg HOut HBy HL0 HL1 HL2 HL3 HL4 HV HO HB1 HB2 k0 k1 k2
  go_wp2_with fail
  go_loopg [7] n3 (fun kx s7 wr => ∃ k : Nat, s7 = .int .i64 k ∧ k ≤ n3 ∧ n3 - k ≤ kx ∧ Hid (Below u3.heap.size u3 wr))
  case atStart => exact ⟨0, by simp, Nat.zero_le _, by omega, Lib.hid (Below.refl _ _)⟩
  case round =>
    obtain ⟨k, rfl, hk, hkx, HBr⟩ := hrel
    by_cases hlt : k < n3
    · have hkl : k < S.kept.length := by have := HN.out.1; omega
      obtain ⟨g1, o1, cap1, e1, _, hc1⟩ := HK3.out.some (by omega)
      obtain ⟨g2, o2, cap2, e2, _, hc2⟩ := HV3.out.hb.some (by omega)
      have hm3 : S.kept.length = n3 := HN.out.1
      rw [hm3] at e1 e2
      obtain ⟨rfl, -, rfl⟩ := Value.slice.inj e1
      obtain ⟨rfl, -, rfl⟩ := Value.slice.inj e2
      have x1 := hc1 k _ (List.getElem?_eq_getElem hkl) 0 _ rfl
      have x2 := hc2 k _ (List.getElem?_eq_getElem hkl) 0 _ rfl
      have y1 := hc1 k _ (List.getElem?_eq_getElem hkl) 1 _ rfl
      have y2 := hc2 k _ (List.getElem?_eq_getElem hkl) 1 _ rfl
      rw [Nat.add_zero] at x1 x2
      obtain ⟨X, hX⟩ : ∃ X, S.kept[k] = X := ⟨_, rfl⟩
      rw [hX] at x1 x2 y1 y2
      obtain ⟨X, Y⟩ := X
      dsimp only at x1 x2 y1 y2
      have hg1 := klt x1
      have hg2 := klt x2
      have hB := HBr.out
      have hin : (0 : Int) ≤ (k : Int) ∧ (k : Int) < (n3 : Int) := by omega
      clear e1 e2 hc1 hc2 hkl hX hm3
      have hp_0 := kc hB x1
      have hq_0 := kc hB x2
      have hp_1 := kc hB y1
      have hq_1 := kc hB y2
      have hr_3 := kc hB k3
      clear x1 x2 y1 y2
      have hl1 := klt hp_0
      have hl2 := klt hq_0
      have hl3 := klt hr_3
      have hbase : u3.heap.size ≤ wr.heap.size := hB.size
      have hsz := hbase
      go_wp2_with fail
      refine wp_region_plan (fun w' => w'.cell? ⟨g1, o1 + k * 2, none⟩ = some (.int .u8 X) ∧ w'.cell? ⟨g1, o1 + k * 2 + 1, none⟩ = some (.int .u8 Y) ∧ w'.cell? ⟨g2, o2 + k * 2, none⟩ = some (.int .u8 X) ∧ w'.cell? ⟨g2, o2 + k * 2 + 1, none⟩ = some (.int .u8 Y) ∧ w'.cell? ⟨rb, 3, none⟩ = some (.slice (some ⟨g2, o2, none⟩) n3 ck) ∧ Below u3.heap.size u3 w') (by kernel_rfl) (by kernel_rfl) (by kernel_rfl) ?_ ?_
      · (try dsimp only)
        refine ⟨?_, ?_, ?_, ?_, ?_, ?_⟩ <;> first | (go_simp; done) | (simp [*]; done) | go_grown
      repeat (first
        | (refine Plan.val (v := ?_) ?_ ?_ ?_; rotate_left; (· rfl); (· (intro W hSw; (try dsimp only at hSw); go_simp; all_goals (first | (with_reducible rfl) | (constructor <;> (with_reducible rfl)) | (rw [if_neg (by omega)]; done) | (rw [if_neg (by omega)]; with_reducible rfl)))); (try simp only [Act.put, List.setIfInBounds_toArray, List.set_cons_zero, List.set_cons_succ]))
        | (refine Plan.no ?_ ?_; (· rfl); (try simp only [Act.put, List.setIfInBounds_toArray, List.set_cons_zero, List.set_cons_succ])))
      refine Plan.done ?_
      intro u T
      (try dsimp only at T)
      obtain ⟨hp_0, hp_1, hq_0, hq_1, hr_3, hB⟩ := T
      have hsz := hB.size
      have hlp := klt hp_0
      have hlq := klt hq_0
      have hlr := klt hr_3
      obtain ⟨hnp0, hnp1, hkp1, hnp2, hkp2⟩ := ap0 hlp
      obtain ⟨hnq0, hnq1, hkq1, hnq2, hkq2⟩ := ap0 hlq
      obtain ⟨hnr0, hnr1, hkr1, hnr2, hkr2⟩ := ap0 hlr
      have HB2 := Lib.hid hB
      go_wp2
      go_roundg (n3 - (k + 1))
      case measure => omega
      case rel => exact ⟨k + 1, by go_num, by omega, by omega, HB2⟩
    · have hge : (n3 : Int) ≤ (k : Int) := by omega
      obtain ⟨k5', k4', HB5⟩ : wr.cell? ⟨rb, 5, none⟩ = some (.slice pd n5 cd) ∧ wr.cell? ⟨rb, 4, none⟩ = some (.slice pc n5 cc) ∧ Hid (Below w.heap.size w wr) := ⟨kc HBr.out k5, kc HBr.out k4, Lib.hid (kb HB3.out HBr.out)⟩
      have HL5 := Lib.hid (HL3'.out.below HBr.out)
      have HV5 := Lib.hid (HV3.out.below HBr.out)
      clear k3 k4 k5 HK3 HV3 HL3' HB3 HBr hlr3 hk hkx hlt
      go_wp2_with fail
      obtain ⟨u5, hu5⟩ : ∃ W, W = wr := ⟨_, rfl⟩
      rw [← hu5] at k5' k4' HB5 HL5 HV5 ⊢
      clear hu5
      go_loopg [8] n5 (fun kx s8 wr => ∃ k : Nat, s8 = .int .i64 k ∧ k ≤ n5 ∧ n5 - k ≤ kx ∧ Hid (Below u5.heap.size u5 wr))
      case atStart => exact ⟨0, by simp, Nat.zero_le _, by omega, Lib.hid (Below.refl _ _)⟩
      case round =>
        obtain ⟨j, rfl, hj, hjx, HBr⟩ := hrel
        by_cases hlt2 : j < n5
        · have hkl : j < S.log.length := by have := HN.out.2.2.2; omega
          have hkc : j < S.cyc.length := by have := HN.out.2.2.1; omega
          have hkt : j < S.told.length := by have := HN.out.2.1; omega
          obtain ⟨g1, o1, cap1, e1, _, hc1⟩ := HL5.out.some (by omega)
          obtain ⟨g2, o2, cap2, e2, _, hc2⟩ := HV5.out.hc.some (by omega)
          obtain ⟨g3, o3, cap3, e3, _, hc3⟩ := HV5.out.hd.some (by omega)
          have hm1 : S.log.length = n5 := HN.out.2.2.2
          have hm2 : S.cyc.length = n5 := HN.out.2.2.1
          have hm3 : S.told.length = n5 := HN.out.2.1
          rw [hm1] at e1
          rw [hm2] at e2
          rw [hm3] at e3
          obtain ⟨rfl, -, rfl⟩ := Value.slice.inj e1
          obtain ⟨rfl, -, rfl⟩ := Value.slice.inj e2
          obtain ⟨rfl, -, rfl⟩ := Value.slice.inj e3
          have hlg : S.log[j] = (S.cyc[j], S.told[j]) := by simp [Po.log]
          have x1 := hc1 j _ (List.getElem?_eq_getElem hkl) 0 _ rfl
          have y1 := hc1 j _ (List.getElem?_eq_getElem hkl) 1 _ rfl
          have x2 := hc2 j _ (List.getElem?_eq_getElem hkc) 0 _ rfl
          have x3 := hc3 j _ (List.getElem?_eq_getElem hkt) 0 _ rfl
          rw [Nat.add_zero] at x1
          rw [Nat.mul_one, Nat.add_zero] at x2 x3
          rw [hlg] at x1 y1
          dsimp only at x1 y1
          generalize S.cyc[j] = X at *
          generalize S.told[j] = Y at *
          have hg1 := klt x1
          have hg2 := klt x2
          have hg3 := klt x3
          have hB := HBr.out
          have hin : (0 : Int) ≤ (j : Int) ∧ (j : Int) < (n5 : Int) := by omega
          clear e1 e2 e3 hc1 hc2 hc3 hkl hkc hkt hlg hm1 hm2 hm3
          have hp_0 := kc hB x1
          have hp_1 := kc hB y1
          have hq_0 := kc hB x2
          have hs_0 := kc hB x3
          have hr_4 := kc hB k4'
          have hr_5 := kc hB k5'
          clear x1 x2 x3 y1
          have hl1 := klt hp_0
          have hl2 := klt hq_0
          have hl3 := klt hs_0
          have hl4 := klt hr_4
          have hbase : u5.heap.size ≤ wr.heap.size := hB.size
          have hsz := hbase
          go_wp2_with fail
          refine wp_region_plan (fun w' => w'.cell? ⟨g1, o1 + j * 2, none⟩ = some (.int .i64 X) ∧ w'.cell? ⟨g1, o1 + j * 2 + 1, none⟩ = some (.int .u8 Y) ∧ w'.cell? ⟨g2, o2 + j, none⟩ = some (.int .i64 X) ∧ w'.cell? ⟨g3, o3 + j, none⟩ = some (.int .u8 Y) ∧ w'.cell? ⟨rb, 4, none⟩ = some (.slice (some ⟨g2, o2, none⟩) n5 cc) ∧ w'.cell? ⟨rb, 5, none⟩ = some (.slice (some ⟨g3, o3, none⟩) n5 cd) ∧ Below u5.heap.size u5 w') (by kernel_rfl) (by kernel_rfl) (by kernel_rfl) ?_ ?_
          · (try dsimp only)
            refine ⟨?_, ?_, ?_, ?_, ?_, ?_, ?_⟩ <;> first | (go_simp; done) | (simp [*]; done) | go_grown
          repeat (first
            | (refine Plan.val (v := ?_) ?_ ?_ ?_; rotate_left; (· rfl); (· (intro W hSw; (try dsimp only at hSw); go_simp; all_goals (first | (with_reducible rfl) | (constructor <;> (with_reducible rfl)) | (rw [if_neg (by omega)]; done) | (rw [if_neg (by omega)]; with_reducible rfl)))); (try simp only [Act.put, List.setIfInBounds_toArray, List.set_cons_zero, List.set_cons_succ]))
            | (refine Plan.no ?_ ?_; (· rfl); (try simp only [Act.put, List.setIfInBounds_toArray, List.set_cons_zero, List.set_cons_succ])))
          refine Plan.done ?_
          intro u T
          (try dsimp only at T)
          obtain ⟨hp_0, hp_1, hq_0, hs_0, hr_4, hr_5, hB⟩ := T
          have hsz := hB.size
          have hlp := klt hp_0
          have hlq := klt hq_0
          have hls := klt hs_0
          have hlr := klt hr_4
          obtain ⟨hnp0, hnp1, hkp1, hnp2, hkp2⟩ := ap0 hlp
          obtain ⟨hnq0, hnq1, hkq1, hnq2, hkq2⟩ := ap0 hlq
          obtain ⟨hns0, hns1, hks1, hns2, hks2⟩ := ap0 hls
          obtain ⟨hnr0, hnr1, hkr1, hnr2, hkr2⟩ := ap0 hlr
          have HB2 := Lib.hid hB
          go_wp2
          go_roundg (n5 - (j + 1))
          case measure => omega
          case rel => exact ⟨j + 1, by go_num, by omega, by omega, HB2⟩
        · have hge : (n5 : Int) ≤ (j : Int) := by omega
          go_wp2
          go_ret
          exact ⟨rfl, kb HB5.out HBr.out⟩
end Go.Proofs.Ytbahjcnamalhcaa
