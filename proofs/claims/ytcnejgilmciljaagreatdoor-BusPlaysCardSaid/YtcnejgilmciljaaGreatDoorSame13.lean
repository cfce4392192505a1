/-
  The law's Same: whether a bus has just what the document's answer has.
-/
import Derived.Test.YtcnejgilmciljaaGreatDoorCk13
import Derived.Test.YtcnejgilmciljaaGreatDoorOutp11
import Derived.Test.YtcnejgilmciljaaGreatDoorOutk11
set_option linter.unusedSimpArgs false
set_option linter.unusedVariables false
namespace Go.Proofs.YtcnejgilmciljaaGreatDoor
open Go.RowKit Go.PlainAid

/-- What the document's bus tells, wherever its slices lie. -/
structure Vb (rb : Nat) (B : Bd) (m x y a b c d : Value) (w : World) : Prop where
  m0 : w.cell? ⟨rb, 0, none⟩ = some m
  t : Tw rb 1 B.T w
  c0 : w.cell? ⟨rb, 7, none⟩ = some x
  c1 : w.cell? ⟨rb, 8, none⟩ = some y
  c2 : w.cell? ⟨rb, 9, none⟩ = some a
  c3 : w.cell? ⟨rb, 10, none⟩ = some b
  c4 : w.cell? ⟨rb, 11, none⟩ = some c
  c5 : w.cell? ⟨rb, 12, none⟩ = some d
  wx : w.cell? ⟨rb, 13, none⟩ = some (.int .i64 B.W.x)
  wy : w.cell? ⟨rb, 14, none⟩ = some (.int .i64 B.W.y)
  n : w.cell? ⟨rb, 17, none⟩ = some (.int .i64 B.n)
  hm : w.ownsRow 0 103 3 m B.L.length (B.L.flatMap Pt.cells)
  hx : HoldsW bE 1 w x B.S.pub
  hy : HoldsW bE 1 w y B.S.sec
  ha : HoldsW bE 1 w a B.S.out
  hb : HoldsW kE 2 w b B.S.kept
  hc : HoldsW cE 1 w c B.S.cyc
  hd : HoldsW bE 1 w d B.S.told
theorem Vb.below {rb : Nat} {B : Bd} {m x y a b c d : Value} {w u : World} (h : Vb rb B m x y a b c d w) (hb : Below w.heap.size w u) : Vb rb B m x y a b c d u :=
  ⟨kc hb h.m0, ⟨fun i v hv => kc hb (h.t.c i v hv), fun i hi => kfz hb (klt h.m0) (h.t.f i hi)⟩, kc hb h.c0, kc hb h.c1, kc hb h.c2, kc hb h.c3, kc hb h.c4, kc hb h.c5, kc hb h.wx, kc hb h.wy, kc hb h.n, own_below h.hm hb, h.hx.below hb, h.hy.below hb, h.ha.below hb, h.hb.below hb, h.hc.below hb, h.hd.below hb⟩
theorem DB.view {rb : Nat} {B : Bd} {F G : Nat → Prop} {w : World} (h : DB rb B F G w) : ∃ m x y a b c d, Vb rb B m x y a b c d w := by
  obtain ⟨m, x, y, a, b, c, d, h, -, -⟩ := h
  obtain ⟨⟨k2, o2⟩, ⟨k3, o3⟩, ⟨k4, o4⟩, k5, o5⟩ := h.db.hold.atB
  exact ⟨m, x, y, a, b, c, d, (h.db.hold.cell 0 _ rfl).1, h.t, h.db.p.c, h.db.s.c, k2, k3, k4, k5, h.h.c0, h.h.c1, h.n.c, (h.db.hold.own 0 _ rfl).1, h.db.p.h, h.db.s.h, HoldsW.own bE_len o2, HoldsW.own kE_len o3, HoldsW.own cE_len o4, HoldsW.own bE_len o5⟩
def kRowB (T : TypeId) (k n : Nat) (xs : List Value) : KdR := .any undef (fun _ => True) (fun x w => w.ownsRow x.lo T k x.v n xs ∧ ∀ b, x.v.ownBlock = some b → b < x.hi)
theorem kRowB_fine (T : TypeId) (k n : Nat) (xs : List Value) : (kRowB T k n xs).Fine := ⟨trivial, fun x W w1 h hb => ⟨own_below h.1 hb, h.2⟩, fun _ _ _ => trivial⟩
theorem mod256 {x : Int} (h : -128 ≤ x ∧ x ≤ 127) : IntKind.i64.wrap (x + 256) = x + 256 ∧ (x + 256).tmod 256 = x % 256 ∧ 0 ≤ x % 256 ∧ x % 256 < 256 ∧ IntKind.i64.wrap (x % 256) = x % 256 := by
  refine ⟨IntWalk.i64_in _ (by omega), ?_, by omega, by omega, IntWalk.i64_in _ (by omega)⟩
  rw [Int.tmod_eq_emod_of_nonneg (by omega)]
  omega
set_option maxRecDepth 100000 in
set_option maxHeartbeats 32000000 in
theorem same13_c {BO : Nat → Bs → Thing} (K : BusK BO) (bb rb : Nat) (B : Bd) (M : Int → Int × Int) (hco : Corr M B.L) (hre : RealL B.L) (hB : (B.q M).May) (hlen : B.L.length ≤ 100000) (F G F' G' : Nat → Prop) (w : World) (hL : Laid w) (h : BO bb (B.q M) F G w) (hv : DB rb B F' G' w) :
    Calls Tryz.prog 15 #[.pointer (some ⟨bb, 0, none⟩), .pointer (some ⟨rb, 0, none⟩)] w fun e w' => e = .returned (.bool true) ∧ Below w.heap.size w w' := by
  have hlt0 := hL.lt
  have HL := Lib.hid hL
  have HCO := Lib.hid hco
  have HRE := Lib.hid hre
  have HFrm := Lib.hid K.frm
  obtain ⟨m, x, y, a, b, c, d, hv⟩ := hv.view
  obtain ⟨L, ⟨tl, tc, tr, ta, ts, tg⟩, S, W, n⟩ := B
  dsimp only [Bd.q] at *
  have hS : Fit S := hB.s
  have hW : W.May := hB.w
  have HFit := Lib.hid hS
  have HWM := Lib.hid hW
  have HV := Lib.hid hv
  have HMem := Lib.hid (fun X (hX : Below w.heap.size w X) => K.memory bb _ F G X ((K.frm _ _).below h hX))
  have HPo := Lib.hid (fun X (hX : Below w.heap.size w X) => K.ports bb _ F G X hB.s ((K.frm _ _).below h hX))
  have HWh := Lib.hid (fun X (hX : Below w.heap.size w X) => K.wheel bb _ F G X ((K.frm _ _).below h hX))
  have HTm := Lib.hid (fun X (hX : Below w.heap.size w X) => K.timer bb _ F G X ((K.frm _ _).below h hX))
  have HCy := Lib.hid (fun X (hX : Below w.heap.size w X) => K.cycles bb _ F G X ((K.frm _ _).below h hX))
  have HIq := Lib.hid (fun X (hX : Below w.heap.size w X) => K.irq bb _ F G X ((K.frm _ _).below h hX))
  have HPl := Lib.hid (fun X => plain10_c ⟨tl, tc, tr, ta, ts, tg⟩ X)
  have HIr := Lib.hid (fun X => irqd_c ⟨tl, tc, tr, ta, ts, tg⟩ X)
  dsimp only at HMem HPo HWh HTm HCy HIq HPl HIr
  unfold tmVal at HTm
  unfold NewT at HPo
  have t1 := hv.t.c 0 _ rfl
  have t2 := hv.t.c 1 _ rfl
  have t3 := hv.t.c 2 _ rfl
  have t4 := hv.t.c 3 _ rfl
  have t5 := hv.t.c 4 _ rfl
  have t6 := hv.t.c 5 _ rfl
  have t17 := hv.n
  dsimp only at t1 t2 t3 t4 t5 t6 t17
  obtain ⟨pm, cm, rfl⟩ := own_form hv.hm
  obtain ⟨px, cx, rfl⟩ := hv.hx.form
  obtain ⟨py, cy, rfl⟩ := hv.hy.form
  obtain ⟨pa, ca, rfl⟩ := hv.ha.form
  obtain ⟨pk, ck, rfl⟩ := hv.hb.form
  obtain ⟨pc, cc, rfl⟩ := hv.hc.form
  obtain ⟨pd, cd, rfl⟩ := hv.hd.form
  dsimp only at HV
  have hlog := hS.log
  have hcyc := hS.cyc
  have HLg0 := Lib.hid (fun pb F G X hX => out_e pb S hS F G X hX)
  have HKt0 := Lib.hid (fun pb F G X hX => out_k pb S hS F G X hX)
  have HOu0 := Lib.hid (fun pb F G X hX => out_b pb S hS F G X hX)
  have HL00 := Lib.hid (fun pb F G X hX => left_c pb S F G 0 X hX)
  have HL10 := Lib.hid (fun pb F G X hX => left_c pb S F G 1 X hX)
  rw [show leftP S 0 = S.pub.length from rfl] at HL00
  rw [show leftP S 1 = S.sec.length from rfl] at HL10
  have hpa : Value.slice pa S.out.length ca = .slice pa S.out.length ca := rfl
  have HBy := Lib.hid (fun v X (hX : Below w.heap.size w X) (hv' : HoldsW bE 1 X v S.out) => bytes13_c S.out (by have := hS.out; omega) v _ X hv' (hv.ha.below hX))
  rw [hlog] at HLg0
  rw [hcyc] at HV
  clear hpa
  have HM1 := Lib.hid (mod256 hW.x)
  have HM2 := Lib.hid (mod256 hW.y)
  have hr1 : rdV W 1 = .tuple #[.agg #[.int .u8 (W.x % 256), .int .u8 0], .int .i64 0] := rfl
  have hr2 : rdV W 2 = .tuple #[.agg #[.int .u8 (W.y % 256), .int .u8 0], .int .i64 0] := rfl
  have HR1 := Lib.hid (fun wb X hX => wread_c wb W hW 1 X hX)
  have HR2 := Lib.hid (fun wb X hX => wread_c wb W hW 2 X hX)
  rw [hr1] at HR1
  rw [hr2] at HR2
  have hb0 := hS.pub
  have hb1 := hS.sec
  have hb2 := hS.out
  have hb3 := hS.kept
  have hb5 := hS.told
  obtain ⟨wx, hwx⟩ : ∃ z, W.x % 256 = z := ⟨_, rfl⟩
  obtain ⟨wy, hwy⟩ : ∃ z, W.y % 256 = z := ⟨_, rfl⟩
  rw [hwx] at HR1 HM1
  rw [hwy] at HR2 HM2
  clear h hv hr1 hr2 hL hB K hco hre
  have HLen := Lib.hid hlen
  generalize hnl : L.length = nl at *
  generalize hn0 : S.pub.length = n0 at *
  generalize hn1 : S.sec.length = n1 at *
  generalize hn2 : S.out.length = n2 at *
  generalize hn3 : S.kept.length = n3 at *
  generalize hn5 : S.told.length = n5 at *
  have HN := Lib.hid (And.intro hn3 (And.intro hn5 (And.intro hcyc (And.intro hlog hnl))))
  have HN2 := Lib.hid hn2
  clear hnl hn0 hn1 hn2 hn3 hn5 hcyc hlog hS hW hwx hwy
  go_enter Tryz.func15, Tryz.ntmps15
  go_wp2_with fail
  refine (HMem.out _ (Below.refl _ _)).mono ?_
  rintro _ u1 ⟨mb, mbb, rfl, hpm, hg1, hg2, hb⟩
  have HB1 := Lib.hid hb
  have HPm := Lib.hid hpm
  clear hb hpm hg1 hg2 HMem
  go_wp2_with fail
  refine (HPo.out _ HB1.out).mono ?_
  rintro _ u2 ⟨pb, F2, G2, rfl, hpo, hg, hl, hb⟩
  have HB2 := Lib.hid (kb HB1.out hb)
  have HPm2 := Lib.hid (HPm.out.below hb)
  have HPO := Lib.hid hpo
  clear hb hpo hg hl HPm HPo HB1
  go_wp2_with fail
  refine (HWh.out _ HB2.out).mono ?_
  rintro _ u3 ⟨wb, rfl, hpw, hl, hb⟩
  have HB3 := Lib.hid (kb HB2.out hb)
  have HPm3 := Lib.hid (HPm2.out.below hb)
  have HPO3 := Lib.hid ((PO.frm _ _).below HPO.out hb)
  have HPw := Lib.hid hpw
  have HV3 := Lib.hid (HV.out.below HB3.out)
  have HL3 := Lib.hid (HL.out.below HB3.out)
  have t1 := kc HB3.out t1
  have t2 := kc HB3.out t2
  have t3 := kc HB3.out t3
  have t4 := kc HB3.out t4
  have t5 := kc HB3.out t5
  have t6 := kc HB3.out t6
  have t17 := kc HB3.out t17
  clear hb hpw hl HPm2 HPO HWh HB2 HL
  have hr_1 := t1
  have hr_2 := t2
  have hr_3 := t3
  have hr_4 := t4
  have hr_5 := t5
  have hr_6 := t6
  have hr_17 := t17
  clear t1 t2 t3 t4 t5 t6 t17
  have hlr := klt hr_1
  have hB : Below u3.heap.size u3 u3 := Below.refl _ _
  have hbase : u3.heap.size ≤ u3.heap.size := Nat.le_refl _
  have hsz := hbase
  go_wp2_with fail
  refine wp_region_plan (fun w' => w'.cell? ⟨rb, 1, none⟩ = some (.int .i64 tl) ∧ w'.cell? ⟨rb, 2, none⟩ = some (.int .i64 tc) ∧ w'.cell? ⟨rb, 3, none⟩ = some (.bool tr) ∧ w'.cell? ⟨rb, 4, none⟩ = some (.bool ta) ∧ w'.cell? ⟨rb, 5, none⟩ = some (.bool ts) ∧ w'.cell? ⟨rb, 6, none⟩ = some (.bool tg) ∧ w'.cell? ⟨rb, 17, none⟩ = some (.int .i64 n) ∧ Below u3.heap.size u3 w') (by kernel_rfl) (by kernel_rfl) (by kernel_rfl) ?_ ?_
  · (try dsimp only)
    refine ⟨?_, ?_, ?_, ?_, ?_, ?_, ?_, ?_⟩ <;> first | (go_simp; done) | (simp [*]; done) | go_grown
  repeat (first
    | (refine Plan.val (v := ?_) ?_ ?_ ?_; rotate_left; (· rfl); (· (intro W hSw; (try dsimp only at hSw); go_simp; all_goals (first | (with_reducible rfl) | (constructor <;> (with_reducible rfl)) | (rw [if_neg (by omega)]; done) | (rw [if_neg (by omega)]; with_reducible rfl)))); (try simp only [Act.put, List.setIfInBounds_toArray, List.set_cons_zero, List.set_cons_succ]))
    | (refine Plan.no ?_ ?_; (· rfl); (try simp only [Act.put, List.setIfInBounds_toArray, List.set_cons_zero, List.set_cons_succ]))
    | (refine Plan.call (v := ?_) (f := ?_) (args := ?_) ?_ ?_ ?_ ?_; rotate_left 3; (· rfl); (· (intro W hSw; (try dsimp only at hSw); go_simp; all_goals (first | (with_reducible rfl) | (constructor <;> (with_reducible rfl)) | (rw [if_neg (by omega)]; done) | (rw [if_neg (by omega)]; with_reducible rfl)))); (· (intro W hSw; (try dsimp only at hSw); first | (go_at_call 53; ((with_reducible refine (HTm.out _ (kb HB3.out hSw.2.2.2.2.2.2.2)).mono ?_); rintro _ wz ⟨rfl, hb⟩; (refine ⟨?_, ?_⟩; (· with_reducible rfl); exact ⟨kc hb hSw.1, kc hb hSw.2.1, kc hb hSw.2.2.1, kc hb hSw.2.2.2.1, kc hb hSw.2.2.2.2.1, kc hb hSw.2.2.2.2.2.1, kc hb hSw.2.2.2.2.2.2.1, kb hSw.2.2.2.2.2.2.2 hb⟩))) | (go_at_call 20; ((with_reducible refine (HPl.out _).mono ?_); rintro _ wz ⟨rfl, hb⟩; (refine ⟨?_, ?_⟩; (· with_reducible rfl); exact ⟨kc hb hSw.1, kc hb hSw.2.1, kc hb hSw.2.2.1, kc hb hSw.2.2.2.1, kc hb hSw.2.2.2.2.1, kc hb hSw.2.2.2.2.2.1, kc hb hSw.2.2.2.2.2.2.1, kb hSw.2.2.2.2.2.2.2 hb⟩))) | (go_at_call 23; ((with_reducible refine (HCy.out _ (kb HB3.out hSw.2.2.2.2.2.2.2)).mono ?_); rintro _ wz ⟨rfl, hb⟩; (refine ⟨?_, ?_⟩; (· with_reducible rfl); exact ⟨kc hb hSw.1, kc hb hSw.2.1, kc hb hSw.2.2.1, kc hb hSw.2.2.2.1, kc hb hSw.2.2.2.2.1, kc hb hSw.2.2.2.2.2.1, kc hb hSw.2.2.2.2.2.2.1, kb hSw.2.2.2.2.2.2.2 hb⟩))) | (go_at_call 54; ((with_reducible refine (HIq.out _ (kb HB3.out hSw.2.2.2.2.2.2.2)).mono ?_); rintro _ wz ⟨rfl, hb⟩; (refine ⟨?_, ?_⟩; (· with_reducible rfl); exact ⟨kc hb hSw.1, kc hb hSw.2.1, kc hb hSw.2.2.1, kc hb hSw.2.2.2.1, kc hb hSw.2.2.2.2.1, kc hb hSw.2.2.2.2.2.1, kc hb hSw.2.2.2.2.2.2.1, kb hSw.2.2.2.2.2.2.2 hb⟩))) | (go_at_call 55; ((with_reducible refine (HIr.out _).mono ?_); rintro _ wz ⟨rfl, hb⟩; (refine ⟨?_, ?_⟩; (· with_reducible rfl); exact ⟨kc hb hSw.1, kc hb hSw.2.1, kc hb hSw.2.2.1, kc hb hSw.2.2.2.1, kc hb hSw.2.2.2.2.1, kc hb hSw.2.2.2.2.2.1, kc hb hSw.2.2.2.2.2.2.1, kb hSw.2.2.2.2.2.2.2 hb⟩))))); (try simp only [Act.put, List.setIfInBounds_toArray, List.set_cons_zero, List.set_cons_succ])))
  refine Plan.done ?_
  intro u4 T
  (try dsimp only at T)
  obtain ⟨hr_1, hr_2, hr_3, hr_4, hr_5, hr_6, hr_17, hB⟩ := T
  have hsz := hB.size
  have hlr := klt hr_1
  obtain ⟨hnr0, hnr1, hkr1, hnr2, hkr2⟩ := ap0 hlr
  have HB4 := Lib.hid hB
  clear hr_1 hr_2 hr_3 hr_4 hr_5 hr_6 hr_17 hB hsz HTm HPl HCy HIq HIr
  have HLg := Lib.hid (fun X (hX : Below u3.heap.size u3 X) => HLg0.out pb F2 G2 X ((PO.frm _ _).below HPO3.out hX))
  have HKt := Lib.hid (fun X (hX : Below u3.heap.size u3 X) => HKt0.out pb F2 G2 X ((PO.frm _ _).below HPO3.out hX))
  have HOut := Lib.hid (fun X (hX : Below u3.heap.size u3 X) => HOu0.out pb F2 G2 X ((PO.frm _ _).below HPO3.out hX))
  have HL0 := Lib.hid (fun X (hX : Below u3.heap.size u3 X) => HL00.out pb F2 G2 X ((PO.frm _ _).below HPO3.out hX))
  have HL1 := Lib.hid (fun X (hX : Below u3.heap.size u3 X) => HL10.out pb F2 G2 X ((PO.frm _ _).below HPO3.out hX))
  clear HLg0 HKt0 HOu0 HL00 HL10 HPO3
  go_wp2_with fail
  go_loopg [8] nl (fun kx s8 wr => ∃ k : Nat, s8 = .int .i64 k ∧ k ≤ nl ∧ nl - k ≤ kx ∧ Hid (Below u3.heap.size u3 wr))
  case atStart => exact ⟨0, by simp, Nat.zero_le _, by omega, HB4⟩
  case round =>
    obtain ⟨k, rfl, hk, hkx, HBr⟩ := hrel
    by_cases hlt : k < nl
    · have hkl : k < L.length := by have := HN.out.2.2.2.2; omega
      have hm0 := HV3.out.m0
      have how := HoldsW.own pt_len (l := L) HV3.out.hm
      obtain ⟨g, o, cap, e1, _, hcc⟩ := how.some (by omega)
      rw [HN.out.2.2.2.2] at e1
      obtain ⟨rfl, -, rfl⟩ := Value.slice.inj e1
      obtain ⟨y0, -, -⟩ := get3p hcc (List.getElem?_eq_getElem hkl)
      have hreal := HRE.out _ (List.getElem_mem hkl)
      generalize L[k] = X at *
      obtain ⟨xa, xv, xt⟩ := X
      dsimp only at y0 hreal
      have hpr := prM_real (M := M) hreal
      have hat := atP_real HCO.out hreal
      obtain ⟨⟨mv, mt⟩, hM⟩ : ∃ Z, M xa = Z := ⟨_, rfl⟩
      rw [hM] at hpr hat
      dsimp only at hpr
      have HRd := Lib.hid (fun X (hX : Below u3.heap.size u3 X) => readp_c M xa mb mbb X (HPm3.out.below hX) (HL3.out.below hX))
      have HAt := Lib.hid (fun X (hX : Below u3.heap.size u3 X) => atn_c L (by rw [HN.out.2.2.2.2]; exact HLen.out) xa rb 0 _ X (kc hX hm0) (own_below HV3.out.hm hX))
      rw [hpr] at HRd
      rw [hat] at HAt
      dsimp only at HRd HAt
      have hB := HBr.out
      have hin : (0 : Int) ≤ (k : Int) ∧ (k : Int) < (nl : Int) := by omega
      clear e1 hcc how hkl hreal hpr hat hM HBr
      have hp_0 := kc hB y0
      have hr_0 := kc hB hm0
      clear y0 hm0
      have hlp := klt hp_0
      have hlr := klt hr_0
      have hbase : u3.heap.size ≤ wr.heap.size := hB.size
      have hsz := hbase
      go_wp2_with fail
      ((with_reducible refine (HRd.out _ hB).mono ?_); rintro _ u5 ⟨rfl, hb⟩)
      have T : u5.cell? ⟨g, o + k * 3, none⟩ = some (.int .i64 xa) ∧ u5.cell? ⟨rb, 0, none⟩ = some (.slice (some ⟨g, o, none⟩) nl cm) := by
          refine ⟨?_, ?_⟩ <;> refine kc hb ?_ <;> (go_simp; first | done | rfl)
      have hz := hb.size
      (try simp only [World.size_alloc, World.size_setCell, World.size_drew] at hz)
      have L : g < u5.heap.size ∧ rb < u5.heap.size := by omega
      have hB' : Below u3.heap.size u3 u5 := by
          refine kb ?_ hb
          go_grown
      clear hb hz
      obtain ⟨hp_0, hr_0⟩ := T
      obtain ⟨hlp, hlr⟩ := L
      obtain ⟨hnp0, hnp1, hkp1, hnp2, hkp2⟩ := ap0 hlp
      obtain ⟨hnr0, hnr1, hkr1, hnr2, hkr2⟩ := ap0 hlr
      have hB := hB'; clear hB'
      have hsz := hB.size
      go_wp2_with fail
      refine wp_region_plan (fun w' => w'.cell? ⟨u5.heap.size, 0, none⟩ = some (.int .u8 mv) ∧ w'.cell? ⟨u5.heap.size, 1, none⟩ = some (.int .u8 mt) ∧ w'.cell? ⟨g, o + k * 3, none⟩ = some (.int .i64 xa) ∧ w'.cell? ⟨rb, 0, none⟩ = some (.slice (some ⟨g, o, none⟩) nl cm) ∧ Below u3.heap.size u3 w') (by kernel_rfl) (by kernel_rfl) (by kernel_rfl) ?_ ?_
      · (try dsimp only)
        refine ⟨?_, ?_, ?_, ?_, ?_⟩ <;> first | (go_simp; done) | (simp [*]; done) | go_grown
      repeat (first
        | (refine Plan.val (v := ?_) ?_ ?_ ?_; rotate_left; (· rfl); (· (intro W hSw; (try dsimp only at hSw); go_simp; all_goals (first | (with_reducible rfl) | (constructor <;> (with_reducible rfl)) | (rw [if_neg (by omega)]; done) | (rw [if_neg (by omega)]; with_reducible rfl)))); (try simp only [Act.put, List.setIfInBounds_toArray, List.set_cons_zero, List.set_cons_succ]))
        | (refine Plan.no ?_ ?_; (· rfl); (try simp only [Act.put, List.setIfInBounds_toArray, List.set_cons_zero, List.set_cons_succ]))
        | (refine Plan.call (v := ?_) (f := ?_) (args := ?_) ?_ ?_ ?_ ?_; rotate_left 3; (· rfl); (· (intro W hSw; (try dsimp only at hSw); go_simp; all_goals (first | (with_reducible rfl) | (constructor <;> (with_reducible rfl)) | (rw [if_neg (by omega)]; done) | (rw [if_neg (by omega)]; with_reducible rfl)))); (· (intro W hSw; (try dsimp only at hSw); first | (go_at_call 48; ((with_reducible refine (HAt.out _ hSw.2.2.2.2).mono ?_); rintro _ wz ⟨rfl, hb⟩; (refine ⟨?_, ?_⟩; (· with_reducible rfl); exact ⟨kc hb hSw.1, kc hb hSw.2.1, kc hb hSw.2.2.1, kc hb hSw.2.2.2.1, kb hSw.2.2.2.2 hb⟩))))); (try simp only [Act.put, List.setIfInBounds_toArray, List.set_cons_zero, List.set_cons_succ])))
      refine Plan.done ?_
      intro u6 T
      (try dsimp only at T)
      clear hp_0 hr_0 hlp hlr hnp0 hnp1 hkp1 hnp2 hkp2 hnr0 hnr1 hkr1 hnr2 hkr2 hB hsz
      obtain ⟨hz_0, hz_1, hp_0, hr_0, hB⟩ := T
      have hsz := hB.size
      have hlz := klt hz_0
      have hlp := klt hp_0
      have hlr := klt hr_0
      obtain ⟨hnz0, hnz1, hkz1, hnz2, hkz2⟩ := ap0 hlz
      obtain ⟨hnp0, hnp1, hkp1, hnp2, hkp2⟩ := ap0 hlp
      obtain ⟨hnr0, hnr1, hkr1, hnr2, hkr2⟩ := ap0 hlr
      have HB6 := Lib.hid hB
      go_wp2
      go_roundg (nl - (k + 1))
      case measure => omega
      case rel => exact ⟨k + 1, by go_num, by omega, by omega, HB6⟩
    · have hge : (nl : Int) ≤ (k : Int) := by omega
      have hm0 := kc HBr.out HV3.out.m0
      have hlm := klt hm0
      clear hk hkx hlt HPm3 HL3 HCO HRE HLen
      go_wp2_with fail
      refine (HLg.out _ HBr.out).mono ?_
      rintro _ v1 ⟨vl, rfl, hl, hb⟩
      have HB5 := Lib.hid (kb HBr.out hb)
      have HLL := Lib.hid (HoldsW.own (enc := eE) (l := S.log) eE_len (by rw [HN.out.2.2.2.1]; exact hl))
      obtain ⟨ql, dl, rfl⟩ := own_form hl
      clear hl hb hm0 hlm hge HLg HBr
      go_wp2_with fail
      refine (HKt.out _ HB5.out).mono ?_
      rintro _ v2 ⟨vk, rfl, hk, hb⟩
      have HB6 := Lib.hid (kb HB5.out hb)
      have HL6 := Lib.hid (HLL.out.below hb)
      have HK6 := Lib.hid (HoldsW.own (enc := kE) (l := S.kept) kE_len (by rw [HN.out.1]; exact hk))
      obtain ⟨qk, dk, rfl⟩ := own_form hk
      clear hk hb HLL HKt HB5
      have k0 := kc HB6.out HV3.out.c0
      have k1 := kc HB6.out HV3.out.c1
      have k2 := kc HB6.out HV3.out.c2
      have k3 := kc HB6.out HV3.out.c3
      have k5 := kc HB6.out HV3.out.c5
      have hlr := klt k0
      go_wp2_with fail
      refine wp_region_planD 9 53 (fun W => W.cell? ⟨rb, 7, none⟩ = some (.slice px n0 cx) ∧ W.cell? ⟨rb, 8, none⟩ = some (.slice py n1 cy) ∧ W.cell? ⟨rb, 9, none⟩ = some (.slice pa n2 ca) ∧ W.cell? ⟨rb, 10, none⟩ = some (.slice pk n3 ck) ∧ W.cell? ⟨rb, 12, none⟩ = some (.slice pd n5 cd) ∧ Below u3.heap.size u3 W ∧ Below v2.heap.size v2 W)
        [.val (.pointer (some ⟨pb, 0, none⟩)), kRowB 5 1 n2 (S.out.flatMap bE), .val (.pointer (some ⟨rb, 0, none⟩)), .val (.pointer (some ⟨rb, 0, none⟩)), .val (.pointer (some ⟨rb, 7, none⟩)), .val (.pointer (some ⟨rb, 9, none⟩)), .val (.slice pa n2 ca), kAnsB (.bool true), .val (.bool false), .val (.bool false), .val (.slice ql n5 dl), .val (.int .i64 n5), .val (.pointer (some ⟨rb, 0, none⟩)), .val (.pointer (some ⟨rb, 0, none⟩)), .val (.pointer (some ⟨rb, 7, none⟩)), .val (.pointer (some ⟨rb, 12, none⟩)), .val (.slice pd n5 cd), .val (.int .i64 n5), .val (.bool false), .val (.bool false), .val (.bool false), .val (.slice qk n3 dk), .val (.int .i64 n3), .val (.pointer (some ⟨rb, 0, none⟩)), .val (.pointer (some ⟨rb, 0, none⟩)), .val (.pointer (some ⟨rb, 7, none⟩)), .val (.pointer (some ⟨rb, 10, none⟩)), .val (.slice pk n3 ck), .val (.int .i64 n3), .val (.bool false), .val (.bool false), .val (.bool false), .val (.pointer (some ⟨pb, 0, none⟩)), kAnsB (.int .i64 (n0 : Nat)), .val (.pointer (some ⟨rb, 0, none⟩)), .val (.pointer (some ⟨rb, 0, none⟩)), .val (.pointer (some ⟨rb, 7, none⟩)), .val (.pointer (some ⟨rb, 7, none⟩)), .val (.slice px n0 cx), .val (.int .i64 n0), .val (.bool false), .val (.bool false), .val (.bool false), .val (.pointer (some ⟨pb, 0, none⟩)), kAnsB (.int .i64 (n1 : Nat)), .val (.pointer (some ⟨rb, 0, none⟩)), .val (.pointer (some ⟨rb, 0, none⟩)), .val (.pointer (some ⟨rb, 7, none⟩)), .val (.pointer (some ⟨rb, 8, none⟩)), .val (.slice py n1 cy), .val (.int .i64 n1), .val (.bool false), .val (.bool false)]
        (by kernel_rfl) (by kernel_rfl) (by kernel_rfl) (by kernel_rfl) (by kernel_rfl) (fun W w1 h hb => ⟨kc hb h.1, kc hb h.2.1, kc hb h.2.2.1, kc hb h.2.2.2.1, kc hb h.2.2.2.2.1, h.2.2.2.2.2.1.trans (hb.mono h.2.2.2.2.2.1.size), h.2.2.2.2.2.2.trans (hb.mono h.2.2.2.2.2.2.size)⟩) ?_ ?_ ?_
      · intro k hk
        simp only [List.mem_cons, List.not_mem_nil, or_false] at hk
        rcases hk with rfl | rfl | rfl | rfl | rfl | rfl | rfl | rfl | rfl | rfl | rfl | rfl | rfl | rfl | rfl | rfl | rfl | rfl | rfl | rfl | rfl | rfl | rfl | rfl | rfl | rfl | rfl | rfl | rfl | rfl | rfl | rfl | rfl | rfl | rfl | rfl | rfl | rfl | rfl | rfl | rfl | rfl | rfl | rfl | rfl | rfl | rfl | rfl | rfl | rfl | rfl | rfl | rfl <;> first | exact trivial | exact kRowB_fine _ _ _ _ | exact kAnsB_fine _
      · exact ⟨k0, k1, k2, k3, k5, Below.drew HB6.out, Below.drew (Below.refl _ _)⟩
      (try simp only [List.append_eq, List.cons_append, List.nil_append, List.toList_toArray, List.take_succ_cons, List.take_zero, List.drop_succ_cons, List.drop_zero])
      (iterate 1 (refine PlanR.val ?_ ?_ ?_; (· rfl); (· (intro W hSw; (try dsimp only at hSw); go_simp; all_goals (first | (with_reducible rfl) | (constructor <;> (with_reducible rfl))))); intro _ _; (try simp only [Act.put, List.setIfInBounds_toArray, List.set_cons_zero, List.set_cons_succ])))
      refine PlanR.any ?_ ?_ ?_
      · rfl
      · intro W hSw _
        (try dsimp only at hSw)
        go_simp
        refine ⟨rfl, (HOut.out W hSw.2.2.2.2.2.1).mono ?_⟩
        rintro _ u ⟨v', rfl, hv', hb⟩
        exact ⟨_, rfl, hb, hv', fun b hb2 => (hv'.lt b hb2).2⟩
      rintro ⟨vo, loo, hio⟩ _
      (try simp only [Act.put, List.setIfInBounds_toArray, List.set_cons_zero, List.set_cons_succ])
      (iterate 5 (refine PlanR.val ?_ ?_ ?_; (· rfl); (· (intro W hSw; (try dsimp only at hSw); go_simp; all_goals (first | (with_reducible rfl) | (constructor <;> (with_reducible rfl))))); intro _ _; (try simp only [Act.put, List.setIfInBounds_toArray, List.set_cons_zero, List.set_cons_succ])))
      refine PlanR.any ?_ ?_ ?_
      · rfl
      · intro W hSw hKn
        (try dsimp only at hSw)
        have hvo : HoldsW bE 1 W vo S.out := HoldsW.own bE_len (by rw [HN2.out]; exact (hKn 1 (by decide) (by kernel_rfl)).1)
        go_simp
        refine ⟨rfl, (HBy.out vo W (kb HB3.out hSw.2.2.2.2.2.1) hvo).mono ?_⟩
        rintro _ u ⟨rfl, hb⟩
        exact ⟨_, rfl, hb, rfl⟩
      rintro ⟨_, lo7, hi7⟩ rfl
      (try simp only [Act.put, List.setIfInBounds_toArray, List.set_cons_zero, List.set_cons_succ])
      (iterate 25 (refine PlanR.val ?_ ?_ ?_; (· rfl); (· (intro W hSw; (try dsimp only at hSw); go_simp; all_goals (first | (with_reducible rfl) | (constructor <;> (with_reducible rfl))))); intro _ _; (try simp only [Act.put, List.setIfInBounds_toArray, List.set_cons_zero, List.set_cons_succ])))
      refine PlanR.any ?_ ?_ ?_
      · rfl
      · intro W hSw hKn
        (try dsimp only at hSw)
        skip
        go_simp
        refine ⟨rfl, (HL0.out W hSw.2.2.2.2.2.1).mono ?_⟩
        rintro _ u ⟨rfl, hb⟩
        exact ⟨_, rfl, hb, rfl⟩
      rintro ⟨_, lo33, hi33⟩ rfl
      (try simp only [Act.put, List.setIfInBounds_toArray, List.set_cons_zero, List.set_cons_succ])
      (iterate 10 (refine PlanR.val ?_ ?_ ?_; (· rfl); (· (intro W hSw; (try dsimp only at hSw); go_simp; all_goals (first | (with_reducible rfl) | (constructor <;> (with_reducible rfl))))); intro _ _; (try simp only [Act.put, List.setIfInBounds_toArray, List.set_cons_zero, List.set_cons_succ])))
      refine PlanR.any ?_ ?_ ?_
      · rfl
      · intro W hSw hKn
        (try dsimp only at hSw)
        skip
        go_simp
        refine ⟨rfl, (HL1.out W hSw.2.2.2.2.2.1).mono ?_⟩
        rintro _ u ⟨rfl, hb⟩
        exact ⟨_, rfl, hb, rfl⟩
      rintro ⟨_, lo44, hi44⟩ rfl
      (try simp only [Act.put, List.setIfInBounds_toArray, List.set_cons_zero, List.set_cons_succ])
      (iterate 8 (refine PlanR.val ?_ ?_ ?_; (· rfl); (· (intro W hSw; (try dsimp only at hSw); go_simp; all_goals (first | (with_reducible rfl) | (constructor <;> (with_reducible rfl))))); intro _ _; (try simp only [Act.put, List.setIfInBounds_toArray, List.set_cons_zero, List.set_cons_succ])))
      refine PlanR.done ?_
      intro v3 GG
      obtain ⟨k0, k1, k2, k3, k5, hB, hB2⟩ := GG.s
      clear GG
      have HV7 := Lib.hid (HV3.out.below hB)
      have k4 := HV7.out.c4
      have HK7 := Lib.hid (HK6.out.below hB2)
      have HL7 := Lib.hid (HL6.out.below hB2)
      have HB7 := Lib.hid hB
      have hlr3 := klt k0
      clear HK6 HL6 hB hB2 HOut HBy HL0 HL1 HV HV3 HB6 k0 k1 k2 hlr
      go_wp2_with fail
      go_loopg [13] n5 (fun kx s8 wr => ∃ k : Nat, s8 = .int .i64 k ∧ k ≤ n5 ∧ n5 - k ≤ kx ∧ Hid (Below v3.heap.size v3 wr))
      case atStart => exact ⟨0, by simp, Nat.zero_le _, by omega, Lib.hid (Below.refl _ _)⟩
      case round =>
        obtain ⟨j, rfl, hj, hjx, HBr⟩ := hrel
        by_cases hlt2 : j < n5
        · have hkl : j < S.log.length := by have := HN.out.2.2.2.1; omega
          have hkc : j < S.cyc.length := by have := HN.out.2.2.1; omega
          have hkt : j < S.told.length := by have := HN.out.2.1; omega
          obtain ⟨g1, o1, cap1, e1, _, hc1⟩ := HL7.out.some (by omega)
          obtain ⟨g2, o2, cap2, e2, _, hc2⟩ := HV7.out.hc.some (show 0 < S.cyc.length by omega)
          obtain ⟨g3, o3, cap3, e3, _, hc3⟩ := HV7.out.hd.some (show 0 < S.told.length by omega)
          have hm1 : S.log.length = n5 := HN.out.2.2.2.1
          have hm2 : S.cyc.length = n5 := HN.out.2.2.1
          have hm3 : S.told.length = n5 := HN.out.2.1
          dsimp only at e1 e2 e3 hc2 hc3
          rw [hm1] at e1
          rw [hm2] at e2
          rw [hm3] at e3
          obtain ⟨rfl, -, rfl⟩ := Value.slice.inj e1
          obtain ⟨rfl, -, rfl⟩ := Value.slice.inj e2
          obtain ⟨rfl, -, rfl⟩ := Value.slice.inj e3
          have hlg : S.log[j] = (S.cyc[j], S.told[j]) := by simp [Po.log]
          have x1 := hc1 j _ (List.getElem?_eq_getElem hkl) 0 _ rfl
          have y1 := hc1 j _ (List.getElem?_eq_getElem hkl) 1 _ rfl
          have x2 := hc2 j _ (List.getElem?_eq_getElem hkc) 0 _ rfl
          have x3 := hc3 j _ (List.getElem?_eq_getElem hkt) 0 _ rfl
          rw [Nat.add_zero] at x1
          rw [Nat.mul_one, Nat.add_zero] at x2 x3
          rw [hlg] at x1 y1
          dsimp only at x1 y1
          generalize S.cyc[j] = X at *
          generalize S.told[j] = Y at *
          have hg1 := klt x1
          have hg2 := klt x2
          have hg3 := klt x3
          have hB := HBr.out
          have hin : (0 : Int) ≤ (j : Int) ∧ (j : Int) < (n5 : Int) := by omega
          clear e1 e2 e3 hc1 hc2 hc3 hkl hkc hkt hlg hm1 hm2 hm3
          have hp_0 := kc hB x1
          have hp_1 := kc hB y1
          have hq_0 := kc hB x2
          have hs_0 := kc hB x3
          have hr_11 := kc hB k4
          have hr_12 := kc hB k5
          clear x1 x2 x3 y1
          have hl1 := klt hp_0
          have hl2 := klt hq_0
          have hl3 := klt hs_0
          have hl4 := klt hr_11
          have hbase : v3.heap.size ≤ wr.heap.size := hB.size
          have hsz := hbase
          go_wp2_with fail
          refine wp_region_plan (fun w' => w'.cell? ⟨g1, o1 + j * 2, none⟩ = some (.int .i64 X) ∧ w'.cell? ⟨g1, o1 + j * 2 + 1, none⟩ = some (.int .u8 Y) ∧ w'.cell? ⟨g2, o2 + j, none⟩ = some (.int .i64 X) ∧ w'.cell? ⟨g3, o3 + j, none⟩ = some (.int .u8 Y) ∧ w'.cell? ⟨rb, 11, none⟩ = some (.slice (some ⟨g2, o2, none⟩) n5 cc) ∧ w'.cell? ⟨rb, 12, none⟩ = some (.slice (some ⟨g3, o3, none⟩) n5 cd) ∧ Below v3.heap.size v3 w') (by kernel_rfl) (by kernel_rfl) (by kernel_rfl) ?_ ?_
          · (try dsimp only)
            refine ⟨?_, ?_, ?_, ?_, ?_, ?_, ?_⟩ <;> first | (go_simp; done) | (simp [*]; done) | go_grown
          repeat (first
            | (refine Plan.val (v := ?_) ?_ ?_ ?_; rotate_left; (· rfl); (· (intro W hSw; (try dsimp only at hSw); go_simp; all_goals (first | (with_reducible rfl) | (constructor <;> (with_reducible rfl)) | (rw [if_neg (by omega)]; done) | (rw [if_neg (by omega)]; with_reducible rfl)))); (try simp only [Act.put, List.setIfInBounds_toArray, List.set_cons_zero, List.set_cons_succ]))
            | (refine Plan.no ?_ ?_; (· rfl); (try simp only [Act.put, List.setIfInBounds_toArray, List.set_cons_zero, List.set_cons_succ])))
          refine Plan.done ?_
          intro u T
          (try dsimp only at T)
          obtain ⟨hp_0, hp_1, hq_0, hs_0, hr_11, hr_12, hB⟩ := T
          have hsz := hB.size
          have hlp := klt hp_0
          have hlq := klt hq_0
          have hls := klt hs_0
          have hlr := klt hr_11
          obtain ⟨hnp0, hnp1, hkp1, hnp2, hkp2⟩ := ap0 hlp
          obtain ⟨hnq0, hnq1, hkq1, hnq2, hkq2⟩ := ap0 hlq
          obtain ⟨hns0, hns1, hks1, hns2, hks2⟩ := ap0 hls
          obtain ⟨hnr0, hnr1, hkr1, hnr2, hkr2⟩ := ap0 hlr
          have HB9 := Lib.hid hB
          go_wp2
          go_roundg (n5 - (j + 1))
          case measure => omega
          case rel => exact ⟨j + 1, by go_num, by omega, by omega, HB9⟩
        · have hge : (n5 : Int) ≤ (j : Int) := by omega
          have HV8 := Lib.hid (HV7.out.below HBr.out)
          have HK8 := Lib.hid (HK7.out.below HBr.out)
          have HB8 := Lib.hid (kb HB7.out HBr.out)
          clear HV7 HK7 HL7 HB7 HBr hlr3 hj hjx hlt2 k3 k4 k5
          go_wp2_with fail
          generalize decide (j < n5) = DD
          clear hge
          obtain ⟨v4, hv4⟩ : ∃ W, W = wr := ⟨_, rfl⟩
          rw [← hv4] at HV8 HK8 HB8 ⊢
          clear hv4
          go_loopg [14] n3 (fun kx s7 wr => ∃ k : Nat, s7 = .int .i64 k ∧ k ≤ n3 ∧ n3 - k ≤ kx ∧ Hid (Below v4.heap.size v4 wr))
          case atStart => exact ⟨0, by simp, Nat.zero_le _, by omega, Lib.hid (Below.refl _ _)⟩
          case round =>
            obtain ⟨k, rfl, hk, hkx, HBr⟩ := hrel
            by_cases hlt : k < n3
            · have hkl : k < S.kept.length := by have := HN.out.1; omega
              have k3 := HV8.out.c3
              obtain ⟨g1, o1, cap1, e1, _, hc1⟩ := HK8.out.some (by omega)
              obtain ⟨g2, o2, cap2, e2, _, hc2⟩ := HV8.out.hb.some (show 0 < S.kept.length by omega)
              have hm3 : S.kept.length = n3 := HN.out.1
              dsimp only at e2 hc2
              rw [hm3] at e1 e2
              obtain ⟨rfl, -, rfl⟩ := Value.slice.inj e1
              obtain ⟨rfl, -, rfl⟩ := Value.slice.inj e2
              have x1 := hc1 k _ (List.getElem?_eq_getElem hkl) 0 _ rfl
              have x2 := hc2 k _ (List.getElem?_eq_getElem hkl) 0 _ rfl
              have y1 := hc1 k _ (List.getElem?_eq_getElem hkl) 1 _ rfl
              have y2 := hc2 k _ (List.getElem?_eq_getElem hkl) 1 _ rfl
              rw [Nat.add_zero] at x1 x2
              obtain ⟨X, hX⟩ : ∃ X, S.kept[k] = X := ⟨_, rfl⟩
              rw [hX] at x1 x2 y1 y2
              obtain ⟨X, Y⟩ := X
              dsimp only at x1 x2 y1 y2
              have hg1 := klt x1
              have hg2 := klt x2
              have hB := HBr.out
              have hin : (0 : Int) ≤ (k : Int) ∧ (k : Int) < (n3 : Int) := by omega
              clear e1 e2 hc1 hc2 hkl hX hm3
              have hp_0 := kc hB x1
              have hq_0 := kc hB x2
              have hp_1 := kc hB y1
              have hq_1 := kc hB y2
              have hr_10 := kc hB k3
              clear x1 x2 y1 y2
              have hl1 := klt hp_0
              have hl2 := klt hq_0
              have hl3 := klt hr_10
              have hbase : v4.heap.size ≤ wr.heap.size := hB.size
              have hsz := hbase
              go_wp2_with fail
              refine wp_region_plan (fun w' => w'.cell? ⟨g1, o1 + k * 2, none⟩ = some (.int .u8 X) ∧ w'.cell? ⟨g1, o1 + k * 2 + 1, none⟩ = some (.int .u8 Y) ∧ w'.cell? ⟨g2, o2 + k * 2, none⟩ = some (.int .u8 X) ∧ w'.cell? ⟨g2, o2 + k * 2 + 1, none⟩ = some (.int .u8 Y) ∧ w'.cell? ⟨rb, 10, none⟩ = some (.slice (some ⟨g2, o2, none⟩) n3 ck) ∧ Below v4.heap.size v4 w') (by kernel_rfl) (by kernel_rfl) (by kernel_rfl) ?_ ?_
              · (try dsimp only)
                refine ⟨?_, ?_, ?_, ?_, ?_, ?_⟩ <;> first | (go_simp; done) | (simp [*]; done) | go_grown
              repeat (first
                | (refine Plan.val (v := ?_) ?_ ?_ ?_; rotate_left; (· rfl); (· (intro W hSw; (try dsimp only at hSw); go_simp; all_goals (first | (with_reducible rfl) | (constructor <;> (with_reducible rfl)) | (rw [if_neg (by omega)]; done) | (rw [if_neg (by omega)]; with_reducible rfl)))); (try simp only [Act.put, List.setIfInBounds_toArray, List.set_cons_zero, List.set_cons_succ]))
                | (refine Plan.no ?_ ?_; (· rfl); (try simp only [Act.put, List.setIfInBounds_toArray, List.set_cons_zero, List.set_cons_succ])))
              refine Plan.done ?_
              intro u T
              (try dsimp only at T)
              obtain ⟨hp_0, hp_1, hq_0, hq_1, hr_10, hB⟩ := T
              have hsz := hB.size
              have hlp := klt hp_0
              have hlq := klt hq_0
              have hlr := klt hr_10
              obtain ⟨hnp0, hnp1, hkp1, hnp2, hkp2⟩ := ap0 hlp
              obtain ⟨hnq0, hnq1, hkq1, hnq2, hkq2⟩ := ap0 hlq
              obtain ⟨hnr0, hnr1, hkr1, hnr2, hkr2⟩ := ap0 hlr
              have HB9 := Lib.hid hB
              go_wp2
              go_roundg (n3 - (k + 1))
              case measure => omega
              case rel => exact ⟨k + 1, by go_num, by omega, by omega, HB9⟩
            · have hge : (n3 : Int) ≤ (k : Int) := by omega
              have HB9 := Lib.hid (kb HB8.out HBr.out)
              have hx := kc HBr.out HV8.out.wx
              have hy := kc HBr.out HV8.out.wy
              clear HV8 HK8 HB8 HBr hk hkx hlt hb0 hb1 hb2 hb3 hb5
              have hr_13 := hx
              have hr_14 := hy
              clear hx hy
              have hlr := klt hr_13
              have hB := HB9.out
              have hbase : u3.heap.size ≤ wr.heap.size := hB.size
              have hsz := hbase
              clear HB9
              go_wp2_with fail
              ((with_reducible refine (HR1.out wb _ (HPw.out.below hB)).mono ?_); rintro _ x1 ⟨rfl, hb⟩)
              have T : CC x1 rb 13 14 (.int .i64 W.x) (.int .i64 W.y) := by
                  refine ⟨?_, ?_⟩ <;> refine kc hb ?_ <;> (go_simp; first | done | rfl)
              have hz := hb.size
              (try simp only [World.size_alloc, World.size_setCell, World.size_drew] at hz)
              have L : rb < x1.heap.size := by omega
              have hB' : Below u3.heap.size u3 x1 := by
                  refine kb ?_ hb
                  go_grown
              clear hb hz
              obtain ⟨hr_13, hr_14⟩ := T
              have hlr := L; clear L
              obtain ⟨hnr0, hnr1, hkr1, hnr2, hkr2⟩ := ap0 hlr
              have hB := hB'; clear hB'
              have hsz := hB.size
              go_wp2_with fail
              ((with_reducible refine (HR2.out wb _ (HPw.out.below (by go_grown))).mono ?_); rintro _ x2 ⟨rfl, hb⟩)
              have T : CC x2 rb 13 14 (.int .i64 W.x) (.int .i64 W.y) ∧ CC x2 x1.heap.size 0 1 (.int .u8 wx) (.int .u8 0) := by
                  refine ⟨⟨?_, ?_⟩, ⟨?_, ?_⟩⟩ <;> refine kc hb ?_ <;> (go_simp; first | done | rfl)
              have hz := hb.size
              (try simp only [World.size_alloc, World.size_setCell, World.size_drew] at hz)
              have L : rb < x2.heap.size ∧ x1.heap.size < x2.heap.size := by omega
              have hB' : Below u3.heap.size u3 x2 := by
                  refine kb ?_ hb
                  go_grown
              clear hr_13 hr_14 hlr hnr0 hnr1 hkr1 hnr2 hkr2 hB hsz
              clear hb hz
              obtain ⟨⟨hr_13, hr_14⟩, ⟨hz_0, hz_1⟩⟩ := T
              obtain ⟨hlr, hlz⟩ := L
              obtain ⟨hnr0, hnr1, hkr1, hnr2, hkr2⟩ := ap0 hlr
              obtain ⟨hnz0, hnz1, hkz1, hnz2, hkz2⟩ := ap0 hlz
              have hB := hB'; clear hB'
              have hsz := hB.size
              obtain ⟨a1, a2, a3, a4, a5⟩ := HM1.out
              obtain ⟨c1, c2, c3, c4, c5⟩ := HM2.out
              clear HM1 HM2 HR1 HR2
              go_wp2_with fail
              refine wp_region_plan (fun w' => w'.cell? ⟨rb, 13, none⟩ = some (.int .i64 W.x) ∧ w'.cell? ⟨rb, 14, none⟩ = some (.int .i64 W.y) ∧ w'.cell? ⟨x1.heap.size, 0, none⟩ = some (.int .u8 wx) ∧ w'.cell? ⟨x1.heap.size, 1, none⟩ = some (.int .u8 0) ∧ w'.cell? ⟨x2.heap.size, 0, none⟩ = some (.int .u8 wy) ∧ w'.cell? ⟨x2.heap.size, 1, none⟩ = some (.int .u8 0) ∧ Below u3.heap.size u3 w') (by kernel_rfl) (by kernel_rfl) (by kernel_rfl) ?_ ?_
              · (try dsimp only)
                refine ⟨?_, ?_, ?_, ?_, ?_, ?_, ?_⟩ <;> first | (go_simp; done) | (simp [*]; done) | go_grown
              repeat (first
                | (refine Plan.val (v := ?_) ?_ ?_ ?_; rotate_left; (· rfl); (· (intro W hSw; (try dsimp only at hSw); go_simp; all_goals (first | (with_reducible rfl) | (constructor <;> (with_reducible rfl)) | (rw [if_neg (by omega)]; done) | (rw [if_neg (by omega)]; with_reducible rfl)))); (try simp only [Act.put, List.setIfInBounds_toArray, List.set_cons_zero, List.set_cons_succ]))
                | (refine Plan.no ?_ ?_; (· rfl); (try simp only [Act.put, List.setIfInBounds_toArray, List.set_cons_zero, List.set_cons_succ])))
              refine Plan.done ?_
              intro wz T
              (try dsimp only at T)
              have hBe := T.2.2.2.2.2.2
              go_wp2
              go_ret
              exact ⟨rfl, kb HB3.out hBe⟩
end Go.Proofs.YtcnejgilmciljaaGreatDoor
