/-
  The document's bus: its state, what a call answers; Read (genr13.py writes it).
-/
import Derived.Test.YtcnejgilmciljaaGreatDoorObj11
set_option linter.unusedSimpArgs false
set_option linter.unusedVariables false
namespace Go.Proofs.YtcnejgilmciljaaGreatDoor
open Go.RowKit Go.PlainAid

/-- A bus as the document has it: what was put into memory, the timer, ports, the wheel, the cycles. -/
structure Bd where
  L : List Pt
  T : Tm
  S : Po
  W : Wh
  n : Int
structure Bd.May (B : Bd) : Prop where
  l : B.L.length ≤ 100000
  t : B.T.May
  s : B.S.cyc.length ≤ 100000
  w : B.W.May
  n : 0 ≤ B.n ∧ B.n ≤ 4611686018427387904
structure Dbus (rb : Nat) (B : Bd) (m x y a b c d : Value) (w : World) : Prop where
  db : Db rb B.L m B.S x y a b c d w
  t : Tw rb 1 B.T w
  h : Rk rb B.W w
  n : Nn rb B.n w
def hangB (rb : Nat) (B : Bd) (m x y a b c d : Value) : Nat → Prop := hang (foot rb (rB B.L m B.S a b c d)) (some_ B.S.pub) (some_ B.S.sec) x y
/-- What a Read answers, where memory reads so: V, T, the error; what is left of what comes in. -/
def rdB (f : Int → Int × Int) (T : Tm) (S : Po) (W : Wh) (a : Int) : Int × Int × Int :=
  if a < 0 ∨ 65535 < a then (0, 0, 10) else if devB a = false then ((f a).1, (f a).2, 0) else if a < 32772 then (readT T (a - 32768), 0, 0) else if a < 32777 then ((rdPo S (a - 32772)).1, (rdPo S (a - 32772)).2.1, 0) else if a < 32780 then (whB W (a - 32777), 0, 0) else (255, 0, 0)
def rdPs (S : Po) (a : Int) : Po := if 32772 ≤ a ∧ a < 32777 then readS S (a - 32772) else S
def rdD (B : Bd) (a : Int) : Bd := if a < 0 ∨ 65535 < a then B else ⟨B.L, tickT B.T, rdPs B.S a, B.W, B.n + 1⟩
def rdBV (X : Int × Int × Int) : Value := .tuple #[.agg #[.int .u8 X.1, .int .u8 X.2.1], .int .i64 X.2.2]
section
variable {rb : Nat} {B : Bd} {m x y a b c d : Value} {w u v : World}
theorem Rk.fr {R : Wh} {H : Nat → Prop} (h : Rk rb R w) (hf : Fr H w u) (hn : ¬ H rb) : Rk rb R u :=
  ⟨hf.cell h.c0 hn, hf.cell h.c1 hn, hf.cell h.c2 hn, hf.cell h.c3 hn, hf.frozen (klt h.c0) h.f0 hn, hf.frozen (klt h.c0) h.f1 hn, hf.frozen (klt h.c0) h.f2 hn, hf.frozen (klt h.c0) h.f3 hn⟩
theorem Tw.fr {o : Nat} {T : Tm} {H : Nat → Prop} (h : Tw rb o T w) (hf : Fr H w u) (hn : ¬ H rb) : Tw rb o T u :=
  ⟨fun i v hv => hf.cell (h.c i v hv) hn, fun i hi => hf.frozen h.lt (h.f i hi) hn⟩
theorem Nn.fr {n : Int} {H : Nat → Prop} (h : Nn rb n w) (hf : Fr H w u) (hn : ¬ H rb) : Nn rb n u := ⟨hf.cell h.c hn, hf.frozen (klt h.c) h.f hn⟩
theorem Dbus.fr {H : Nat → Prop} (h : Dbus rb B m x y a b c d w) (hf : Fr H w u) (hn : ∀ k, hangB rb B m x y a b c d k → ¬ H k) : Dbus rb B m x y a b c d u :=
  have h0 : ¬ H rb := hn _ (.inl (.inl rfl))
  ⟨⟨h.db.hold.fr hf (fun k hk => hn k (.inl hk)), h.db.p.fr hf h0 (fun hl k hk => hn k (.inr (.inl ⟨some_iff.2 hl, hk⟩))), h.db.s.fr hf h0 (fun hl k hk => hn k (.inr (.inr ⟨some_iff.2 hl, hk⟩)))⟩, h.t.fr hf h0, h.h.fr hf h0, h.n.fr hf h0⟩
theorem Dbus.below (h : Dbus rb B m x y a b c d w) (hb : Below w.heap.size w u) : Dbus rb B m x y a b c d u := h.fr (Fr.ofBelow (F := fun _ => False) hb) (fun _ _ f => f)
theorem Dbus.lt (h : Dbus rb B m x y a b c d w) : ∀ k, hangB rb B m x y a b c d k → k < w.heap.size := fun k hk => by
  rcases hk with hk | ⟨hl, hk⟩ | ⟨hl, hk⟩
  · exact h.db.hold.foot_lt hk
  · exact holds_old h.db.p.h bE_len (by omega) (some_iff.1 hl) k hk
  · exact holds_old h.db.s.h bE_len (by omega) (some_iff.1 hl) k hk
theorem Db.eo {L : List Pt} {S : Po} {K : Nat → Prop} (h : Db rb L m S x y a b c d w) (e : Eo rb K w u) (hk : ∀ j, j = 0 ∨ 7 ≤ j ∧ j ≤ 12 → ¬ K j) : Db rb L m S x y a b c d u :=
  ⟨e.hold h.hold (fun i r hr hK => by
      have h9 : r.off = 0 ∨ 7 ≤ r.off ∧ r.off ≤ 12 := Classical.byContradiction fun hc => (rB_off L m S a b c d r.off (by omega) i r hr) rfl
      exact hk _ h9 hK), e.inp h.p (hk _ (by omega)) (.inl rfl), e.inp h.s (hk _ (by omega)) (.inl rfl)⟩
/-- Behind a cycle that passed. -/
theorem Dbus.passed (h : Dbus rb B m x y a b c d w) (ht : Tw rb 1 (tickT B.T) u) (hn : Nn rb (B.n + 1) u) (e : Eo rb kTN w u) : Dbus rb ⟨B.L, tickT B.T, B.S, B.W, B.n + 1⟩ m x y a b c d u :=
  ⟨h.db.eo e (fun j hj hk => by unfold kTN kT kN at hk; omega), ht, h.h.eo e (fun j hj hk => by unfold kW at hj; unfold kTN kT kN at hk; omega), hn⟩
end
/-- Blocks of a call's own: what it answers, and what it reckons. -/
structure Loc (nb : Nat) (p q r s : Int) (w : World) : Prop where
  c0 : w.cell? ⟨nb, 0, none⟩ = some (.int .u8 p)
  c1 : w.cell? ⟨nb, 1, none⟩ = some (.int .u8 q)
  d0 : w.cell? ⟨nb + 1, 0, none⟩ = some (.int .u8 r)
  d1 : w.cell? ⟨nb + 1, 1, none⟩ = some (.int .u8 s)
  f0 : w.frozen? ⟨nb, 0, none⟩ = false
  f1 : w.frozen? ⟨nb, 1, none⟩ = false
  g0 : w.frozen? ⟨nb + 1, 0, none⟩ = false
  g1 : w.frozen? ⟨nb + 1, 1, none⟩ = false
theorem Loc.fr {nb : Nat} {p q r s : Int} {w u : World} {H : Nat → Prop} (h : Loc nb p q r s w) (hf : Fr H w u) (h0 : ¬ H nb) (h1 : ¬ H (nb + 1)) : Loc nb p q r s u :=
  ⟨hf.cell h.c0 h0, hf.cell h.c1 h0, hf.cell h.d0 h1, hf.cell h.d1 h1, hf.frozen (klt h.c0) h.f0 h0, hf.frozen (klt h.c0) h.f1 h0, hf.frozen (klt h.d0) h.g0 h1, hf.frozen (klt h.d0) h.g1 h1⟩
theorem Loc.below {nb : Nat} {p q r s : Int} {w u : World} (h : Loc nb p q r s w) (hb : Below w.heap.size w u) : Loc nb p q r s u := h.fr (Fr.ofBelow (F := fun _ => False) hb) (fun f => f) (fun f => f)
/-- What the document's Read leaves. -/
def DRead (rb : Nat) (B B' : Bd) (V : Value) (m x0 y0 a b c d : Value) (w : World) : Ending → World → Prop := fun e w' =>
  e = .returned V ∧ Fr (fun k => k = rb) w w' ∧ ∃ x y, Dbus rb B' m x y a b c d w' ∧ rB B'.L m B'.S a b c d = rB B.L m B.S a b c d ∧ (B'.S.pub ≠ [] → B.S.pub ≠ [] ∧ x.ownBlock = x0.ownBlock) ∧ (B'.S.sec ≠ [] → B.S.sec ≠ [] ∧ y.ownBlock = y0.ownBlock)
theorem readS_rB (L : List Pt) (m : Value) (S : Po) (reg : Int) (a b c d : Value) : rB L m (readS S reg) a b c d = rB L m S a b c d := by
  unfold readS
  split
  · rfl
  · split <;> rfl
theorem readS_subB (S : Po) (reg : Int) : ((readS S reg).pub ≠ [] → S.pub ≠ []) ∧ ((readS S reg).sec ≠ [] → S.sec ≠ []) := by
  unfold readS
  split
  · exact ⟨fun h e => h (by dsimp only; rw [e]; rfl), id⟩
  · split
    · exact ⟨id, fun h e => h (by dsimp only; rw [e]; rfl)⟩
    · exact ⟨id, id⟩
theorem dread_end {rb : Nat} {B B1 : Bd} {V : Value} {m x0 y0 x y a b c d : Value} {w u v z : World} (hB : Bd.L B1 = B.L) (h0 : Dbus rb B m x0 y0 a b c d w) (h : Dbus rb B1 m x y a b c d u) (hf : Fr (fun k => k = rb) w u) (hr : rB B1.L m B1.S a b c d = rB B.L m B.S a b c d)
    (hx : B1.S.pub ≠ [] → B.S.pub ≠ [] ∧ x.ownBlock = x0.ownBlock) (hy : B1.S.sec ≠ [] → B.S.sec ≠ [] ∧ y.ownBlock = y0.ownBlock) (ht : Tw rb 1 (tickT B1.T) v) (hn : Nn rb (B1.n + 1) v) (e : Eo rb kTN u v) (hz : Fr (fun k => w.heap.size ≤ k) v z) :
    DRead rb B ⟨B.L, tickT B1.T, B1.S, B1.W, B1.n + 1⟩ V m x0 y0 a b c d w (.returned V) z := by
  have h1 := h.passed ht hn e
  rw [hB] at h1
  refine ⟨rfl, ?_, x, y, ?_, ?_, hx, hy⟩
  · have f1 : Fr (fun k => k = rb) w v := hf.trans e.fr (fun _ _ e => e)
    refine f1.trans (hz) (fun k hk hw => ?_)
    have hk' : k < w.heap.size := hk
    omega
  · refine h1.fr hz (fun k hk hw => ?_)
    have : hangB rb B m x0 y0 a b c d k := by
      rcases hk with hk | ⟨hl, hk⟩ | ⟨hl, hk⟩
      · dsimp only at hk; rw [← hB, hr] at hk; exact .inl hk
      · obtain ⟨h3, h4⟩ := hx (some_iff.1 hl)
        exact .inr (.inl ⟨some_iff.2 h3, by rw [← h4]; exact hk⟩)
      · obtain ⟨h3, h4⟩ := hy (some_iff.1 hl)
        exact .inr (.inr ⟨some_iff.2 h3, by rw [← h4]; exact hk⟩)
    have := h0.lt k this
    omega
  · dsimp only; rw [hB] at hr; exact hr
set_option maxRecDepth 100000 in
set_option maxHeartbeats 4000000 in
theorem dread_mem (rb : Nat) (B : Bd) (hB : B.May) (m x y a b c d : Value) (at_ : Int) (h0 : 0 ≤ at_) (h1 : at_ ≤ 65535) (hdv : devB at_ = false) (w : World) (h : Dbus rb B m x y a b c d w) :
    Calls Tryz.prog 14 #[.pointer (some ⟨rb, 0, none⟩), .int .i64 at_] w (DRead rb B (rdD B at_) (rdBV (rdB (atP B.L) B.T B.S B.W at_)) m x y a b c d w) := by
  have d1 : decide (at_ < 0) = false := by simp; omega
  have d2 : decide (65535 < at_) = false := by simp; omega
  have HR := Lib.hid (show rdB (atP B.L) B.T B.S B.W at_ = ((atP B.L at_).1, (atP B.L at_).2, 0) from by unfold rdB; rw [if_neg (by omega), if_pos hdv])
  have HS := Lib.hid (show rdD B at_ = ⟨B.L, tickT B.T, B.S, B.W, B.n + 1⟩ from by unfold rdD rdPs; rw [if_neg (by omega), if_neg (by unfold devB at hdv; simp at hdv; omega)])
  rw [HR.out, HS.out]
  have HD0 := Lib.hid h
  have HV := Lib.hid (fun W => devr_c at_ W)
  have HPS := Lib.hid (fun W hW1 hW2 => pass_c rb B.T hB.t B.n hB.n W hW1 hW2)
  have hlt := h.db.hold.lt
  have HA := Lib.hid (fun W hW1 hW2 => atn_c B.L hB.l at_ rb 0 m W hW1 hW2)
  rw [hdv] at HV
  clear HR HS
  go_enter Tryz.func14, Tryz.ntmps14
  go_wp2_with fail
  have HL0 := Lib.hid (show Loc w.heap.size 0 0 255 0 ((w.alloc (Obj.cells #[Value.int .u8 0, Value.int .u8 0] 49)).alloc (Obj.cells #[Value.int .u8 255, Value.int .u8 0] 49)) from ⟨by go_simp; first | done | rfl, by go_simp; first | done | rfl, by go_simp; first | done | rfl, by go_simp; first | done | rfl, by go_simp, by go_simp, by go_simp, by go_simp⟩)
  have HB0 := Lib.hid (show Below w.heap.size w ((w.alloc (Obj.cells #[Value.int .u8 0, Value.int .u8 0] 49)).alloc (Obj.cells #[Value.int .u8 255, Value.int .u8 0] 49)) from by go_grown)
  refine (HV.out _).mono ?_
  rintro _ u0 ⟨rfl, hb⟩
  have HL1 := Lib.hid (HL0.out.below hb)
  have HB1 := Lib.hid (Below.trans HB0.out (hb.mono (by simp; omega)))
  have HD1 := Lib.hid (HD0.out.below HB1.out)
  obtain ⟨z0, z1, z2, z3, y0, y1, y2, y3⟩ := HL1.out
  have hz0 := klt z0
  have hz2 := klt z2
  have hr1 := HD1.out.db.hold.lt
  clear hb HL0 HB0 HV
  go_wp2_with fail
  refine (HA.out _ ((HD1.out.db.hold.cell 0 _ rfl).1) ((HD1.out.db.hold.own 0 _ rfl).1)).mono ?_
  rintro _ u ⟨rfl, hb⟩
  obtain ⟨z0, z1, z2, z3, y0, y1, y2, y3⟩ := HL1.out.below hb
  have hz0 := klt z0
  have hz2 := klt z2
  have HBM := Lib.hid (Below.trans HB1.out (hb.mono HB1.out.size))
  have HDu := Lib.hid (HD0.out.below HBM.out)
  have hr2 := HDu.out.db.hold.lt
  clear hb HL1 HD1
  go_wp2_with fail
  have HFM := Lib.hid ((((Fr.ofBelow (F := fun k => k = rb) HBM.out).setCell ⟨w.heap.size + 1, 0, none⟩ (.int .u8 (atP B.L at_).1) (fun h => by dsimp only at h; omega)).setCell ⟨w.heap.size + 1, 1, none⟩ (.int .u8 (atP B.L at_).2) (fun h => by dsimp only at h; omega)))
  have HLM := Lib.hid (show Loc w.heap.size 0 0 (atP B.L at_).1 (atP B.L at_).2 ((u.setCell ⟨w.heap.size + 1, 0, none⟩ (.int .u8 (atP B.L at_).1)).setCell ⟨w.heap.size + 1, 1, none⟩ (.int .u8 (atP B.L at_).2)) from ⟨by go_simp, by go_simp, by go_simp, by go_simp, by go_simp, by go_simp, by go_simp, by go_simp⟩)
  have HDM := Lib.hid (HDu.out.fr (H := fun k => w.heap.size ≤ k) (((Fr.refl _ _).setCell ⟨w.heap.size + 1, 0, none⟩ (.int .u8 (atP B.L at_).1) (fun _ => by dsimp only; omega)).setCell ⟨w.heap.size + 1, 1, none⟩ (.int .u8 (atP B.L at_).2) (fun _ => by dsimp only; omega)) (fun k hk hw => by have := HD0.out.lt k hk; omega))
  clear z0 z1 z2 z3 y0 y1 y2 y3 hz0 hz2
  go_wp2_with fail
  refine (HPS.out _ HDM.out.t HDM.out.n).mono ?_
  rintro _ v ⟨rfl, ht, hn, he⟩
  have HEND := Lib.hid (fun (z : World) (hz : Fr (fun k => w.heap.size ≤ k) v z) => dread_end (B := B) (B1 := ⟨B.L, B.T, B.S, B.W, B.n⟩) (V := rdBV ((atP B.L at_).1, (atP B.L at_).2, 0)) rfl HD0.out HDM.out HFM.out rfl (fun h => ⟨h, rfl⟩) (fun h => ⟨h, rfl⟩) ht hn he hz)
  obtain ⟨p0, p1, p2, p3, o0, o1, o2, o3⟩ := HLM.out.fr he.fr (by omega) (by omega)
  have hp0 := klt p0
  have hp2 := klt p2
  clear ht hn he
  go_wp2
  refine bodyPost_ret (v := .tuple #[.agg #[.int .u8 ((atP B.L at_).1), .int .u8 ((atP B.L at_).2)], .int .i64 0]) (by simp [results, Tryz.results14, go_sem, p0, p1, p2, p3] <;> first | done | rfl) rfl ?_
  refine HEND.out _ ?_
  repeat (first | exact Fr.refl _ _ | refine Fr.setCell ?_ _ _ (fun _ => by dsimp only; omega))
set_option maxRecDepth 100000 in
set_option maxHeartbeats 4000000 in
theorem dread_timer (rb : Nat) (B : Bd) (hB : B.May) (m x y a b c d : Value) (at_ : Int) (h0 : 32768 ≤ at_) (h1 : at_ < 32772) (w : World) (h : Dbus rb B m x y a b c d w) :
    Calls Tryz.prog 14 #[.pointer (some ⟨rb, 0, none⟩), .int .i64 at_] w (DRead rb B (rdD B at_) (rdBV (rdB (atP B.L) B.T B.S B.W at_)) m x y a b c d w) := by
  have d1 : decide (at_ < 0) = false := by simp; omega
  have d2 : decide (65535 < at_) = false := by simp; omega
  have hdv : devB at_ = true := by unfold devB; simp; omega
  have d3 : decide (at_ < 32772) = true := by simp; omega
  have hw : IntKind.i64.wrap (at_ - 32768) = at_ - 32768 := IntWalk.i64_in _ (by omega)
  have HR := Lib.hid (show rdB (atP B.L) B.T B.S B.W at_ = (readT B.T (at_ - 32768), 0, 0) from by unfold rdB; rw [if_neg (by omega), if_neg (by rw [hdv]; simp), if_pos h1])
  have HS := Lib.hid (show rdD B at_ = ⟨B.L, tickT B.T, B.S, B.W, B.n + 1⟩ from by unfold rdD rdPs; rw [if_neg (by omega), if_neg (by omega)])
  rw [HR.out, HS.out]
  have HD0 := Lib.hid h
  have HV := Lib.hid (fun W => devr_c at_ W)
  have HPS := Lib.hid (fun W hW1 hW2 => pass_c rb B.T hB.t B.n hB.n W hW1 hW2)
  have hlt := h.db.hold.lt
  have HA := Lib.hid (fun W => readd_c B.T (at_ - 32768) hB.t W)
  have hw8 : IntKind.u8.wrap (readT B.T (at_ - 32768)) = readT B.T (at_ - 32768) := IntWalk.u8_in _ (readT_byte _ _ hB.t)
  generalize readT B.T (at_ - 32768) = V at *
  rw [hdv] at HV
  clear HR HS
  go_enter Tryz.func14, Tryz.ntmps14
  go_wp2_with fail
  have HL0 := Lib.hid (show Loc w.heap.size 0 0 255 0 ((w.alloc (Obj.cells #[Value.int .u8 0, Value.int .u8 0] 49)).alloc (Obj.cells #[Value.int .u8 255, Value.int .u8 0] 49)) from ⟨by go_simp; first | done | rfl, by go_simp; first | done | rfl, by go_simp; first | done | rfl, by go_simp; first | done | rfl, by go_simp, by go_simp, by go_simp, by go_simp⟩)
  have HB0 := Lib.hid (show Below w.heap.size w ((w.alloc (Obj.cells #[Value.int .u8 0, Value.int .u8 0] 49)).alloc (Obj.cells #[Value.int .u8 255, Value.int .u8 0] 49)) from by go_grown)
  refine (HV.out _).mono ?_
  rintro _ u0 ⟨rfl, hb⟩
  have HL1 := Lib.hid (HL0.out.below hb)
  have HB1 := Lib.hid (Below.trans HB0.out (hb.mono (by simp; omega)))
  have HD1 := Lib.hid (HD0.out.below HB1.out)
  obtain ⟨z0, z1, z2, z3, y0, y1, y2, y3⟩ := HL1.out
  have hz0 := klt z0
  have hz2 := klt z2
  have hr1 := HD1.out.db.hold.lt
  clear hb HL0 HB0 HV
  obtain ⟨t0, t1, t2, t3, t4, t5⟩ := HD1.out.t.at1
  go_wp2_with fail
  refine (HA.out _).mono ?_
  rintro _ u ⟨rfl, hb⟩
  obtain ⟨z0, z1, z2, z3, y0, y1, y2, y3⟩ := HL1.out.below hb
  have hz0 := klt z0
  have hz2 := klt z2
  have HBM := Lib.hid (Below.trans HB1.out (hb.mono HB1.out.size))
  have HDu := Lib.hid (HD0.out.below HBM.out)
  have hr2 := HDu.out.db.hold.lt
  clear hb HL1 HD1
  go_wp2_with fail
  have HFM := Lib.hid ((Fr.ofBelow (F := fun k => k = rb) HBM.out).setCell ⟨w.heap.size + 1, 0, none⟩ (.int .u8 (V)) (fun h => by dsimp only at h; omega))
  have HLM := Lib.hid (show Loc w.heap.size 0 0 (V) (0) (u.setCell ⟨w.heap.size + 1, 0, none⟩ (.int .u8 (V))) from ⟨by go_simp, by go_simp, by go_simp, by go_simp, by go_simp, by go_simp, by go_simp, by go_simp⟩)
  have HDM := Lib.hid (HDu.out.fr (H := fun k => w.heap.size ≤ k) ((Fr.refl _ _).setCell ⟨w.heap.size + 1, 0, none⟩ (.int .u8 (V)) (fun _ => by dsimp only; omega)) (fun k hk hw => by have := HD0.out.lt k hk; omega))
  clear z0 z1 z2 z3 y0 y1 y2 y3 hz0 hz2
  go_wp2_with fail
  refine (HPS.out _ HDM.out.t HDM.out.n).mono ?_
  rintro _ v ⟨rfl, ht, hn, he⟩
  have HEND := Lib.hid (fun (z : World) (hz : Fr (fun k => w.heap.size ≤ k) v z) => dread_end (B := B) (B1 := ⟨B.L, B.T, B.S, B.W, B.n⟩) (V := rdBV (V, 0, 0)) rfl HD0.out HDM.out HFM.out rfl (fun h => ⟨h, rfl⟩) (fun h => ⟨h, rfl⟩) ht hn he hz)
  obtain ⟨p0, p1, p2, p3, o0, o1, o2, o3⟩ := HLM.out.fr he.fr (by omega) (by omega)
  have hp0 := klt p0
  have hp2 := klt p2
  clear ht hn he
  go_wp2
  refine bodyPost_ret (v := .tuple #[.agg #[.int .u8 (V), .int .u8 (0)], .int .i64 0]) (by simp [results, Tryz.results14, go_sem, p0, p1, p2, p3] <;> first | done | rfl) rfl ?_
  refine HEND.out _ ?_
  repeat (first | exact Fr.refl _ _ | refine Fr.setCell ?_ _ _ (fun _ => by dsimp only; omega))
set_option maxRecDepth 100000 in
set_option maxHeartbeats 4000000 in
theorem dread_wheel (rb : Nat) (B : Bd) (hB : B.May) (m x y a b c d : Value) (at_ : Int) (h0 : 32777 ≤ at_) (h1 : at_ < 32780) (w : World) (h : Dbus rb B m x y a b c d w) :
    Calls Tryz.prog 14 #[.pointer (some ⟨rb, 0, none⟩), .int .i64 at_] w (DRead rb B (rdD B at_) (rdBV (rdB (atP B.L) B.T B.S B.W at_)) m x y a b c d w) := by
  have d1 : decide (at_ < 0) = false := by simp; omega
  have d2 : decide (65535 < at_) = false := by simp; omega
  have hdv : devB at_ = true := by unfold devB; simp; omega
  have d3 : decide (at_ < 32772) = false := by simp; omega
  have d4 : decide (at_ < 32777) = false := by simp; omega
  have d5 : decide (at_ < 32780) = true := by simp; omega
  have hw : IntKind.i64.wrap (at_ - 32777) = at_ - 32777 := IntWalk.i64_in _ (by omega)
  have HR := Lib.hid (show rdB (atP B.L) B.T B.S B.W at_ = (whB B.W (at_ - 32777), 0, 0) from by unfold rdB; rw [if_neg (by omega), if_neg (by rw [hdv]; simp), if_neg (by omega), if_neg (by omega), if_pos h1])
  have HS := Lib.hid (show rdD B at_ = ⟨B.L, tickT B.T, B.S, B.W, B.n + 1⟩ from by unfold rdD rdPs; rw [if_neg (by omega), if_neg (by omega)])
  rw [HR.out, HS.out]
  have HD0 := Lib.hid h
  have HV := Lib.hid (fun W => devr_c at_ W)
  have HPS := Lib.hid (fun W hW1 hW2 => pass_c rb B.T hB.t B.n hB.n W hW1 hW2)
  have hlt := h.db.hold.lt
  have HA := Lib.hid (fun W hW => wheelv_c rb B.W hB.w (at_ - 32777) W hW)
  generalize whB B.W (at_ - 32777) = V at *
  rw [hdv] at HV
  clear HR HS
  go_enter Tryz.func14, Tryz.ntmps14
  go_wp2_with fail
  have HL0 := Lib.hid (show Loc w.heap.size 0 0 255 0 ((w.alloc (Obj.cells #[Value.int .u8 0, Value.int .u8 0] 49)).alloc (Obj.cells #[Value.int .u8 255, Value.int .u8 0] 49)) from ⟨by go_simp; first | done | rfl, by go_simp; first | done | rfl, by go_simp; first | done | rfl, by go_simp; first | done | rfl, by go_simp, by go_simp, by go_simp, by go_simp⟩)
  have HB0 := Lib.hid (show Below w.heap.size w ((w.alloc (Obj.cells #[Value.int .u8 0, Value.int .u8 0] 49)).alloc (Obj.cells #[Value.int .u8 255, Value.int .u8 0] 49)) from by go_grown)
  refine (HV.out _).mono ?_
  rintro _ u0 ⟨rfl, hb⟩
  have HL1 := Lib.hid (HL0.out.below hb)
  have HB1 := Lib.hid (Below.trans HB0.out (hb.mono (by simp; omega)))
  have HD1 := Lib.hid (HD0.out.below HB1.out)
  obtain ⟨z0, z1, z2, z3, y0, y1, y2, y3⟩ := HL1.out
  have hz0 := klt z0
  have hz2 := klt z2
  have hr1 := HD1.out.db.hold.lt
  clear hb HL0 HB0 HV
  go_wp2_with fail
  refine (HA.out _ HD1.out.h).mono ?_
  rintro _ u ⟨rfl, hb⟩
  obtain ⟨z0, z1, z2, z3, y0, y1, y2, y3⟩ := HL1.out.below hb
  have hz0 := klt z0
  have hz2 := klt z2
  have HBM := Lib.hid (Below.trans HB1.out (hb.mono HB1.out.size))
  have HDu := Lib.hid (HD0.out.below HBM.out)
  have hr2 := HDu.out.db.hold.lt
  clear hb HL1 HD1
  go_wp2_with fail
  have HFM := Lib.hid (((Fr.ofBelow (F := fun k => k = rb) HBM.out).setCell ⟨w.heap.size + 1, 0, none⟩ (.int .u8 (V)) (fun h => by dsimp only at h; omega)).setCell ⟨w.heap.size + 1, 1, none⟩ (.int .u8 (0)) (fun h => by dsimp only at h; omega))
  have HLM := Lib.hid (show Loc w.heap.size 0 0 (V) (0) ((u.setCell ⟨w.heap.size + 1, 0, none⟩ (.int .u8 (V))).setCell ⟨w.heap.size + 1, 1, none⟩ (.int .u8 (0))) from ⟨by go_simp, by go_simp, by go_simp, by go_simp, by go_simp, by go_simp, by go_simp, by go_simp⟩)
  have HDM := Lib.hid (HDu.out.fr (H := fun k => w.heap.size ≤ k) (((Fr.refl _ _).setCell ⟨w.heap.size + 1, 0, none⟩ (.int .u8 (V)) (fun _ => by dsimp only; omega)).setCell ⟨w.heap.size + 1, 1, none⟩ (.int .u8 (0)) (fun _ => by dsimp only; omega)) (fun k hk hw => by have := HD0.out.lt k hk; omega))
  clear z0 z1 z2 z3 y0 y1 y2 y3 hz0 hz2
  go_wp2_with fail
  refine (HPS.out _ HDM.out.t HDM.out.n).mono ?_
  rintro _ v ⟨rfl, ht, hn, he⟩
  have HEND := Lib.hid (fun (z : World) (hz : Fr (fun k => w.heap.size ≤ k) v z) => dread_end (B := B) (B1 := ⟨B.L, B.T, B.S, B.W, B.n⟩) (V := rdBV (V, 0, 0)) rfl HD0.out HDM.out HFM.out rfl (fun h => ⟨h, rfl⟩) (fun h => ⟨h, rfl⟩) ht hn he hz)
  obtain ⟨p0, p1, p2, p3, o0, o1, o2, o3⟩ := HLM.out.fr he.fr (by omega) (by omega)
  have hp0 := klt p0
  have hp2 := klt p2
  clear ht hn he
  go_wp2
  refine bodyPost_ret (v := .tuple #[.agg #[.int .u8 (V), .int .u8 (0)], .int .i64 0]) (by simp [results, Tryz.results14, go_sem, p0, p1, p2, p3] <;> first | done | rfl) rfl ?_
  refine HEND.out _ ?_
  repeat (first | exact Fr.refl _ _ | refine Fr.setCell ?_ _ _ (fun _ => by dsimp only; omega))
set_option maxRecDepth 100000 in
set_option maxHeartbeats 4000000 in
theorem dread_none (rb : Nat) (B : Bd) (hB : B.May) (m x y a b c d : Value) (at_ : Int) (h0 : 32780 ≤ at_) (h1 : at_ < 32784) (w : World) (h : Dbus rb B m x y a b c d w) :
    Calls Tryz.prog 14 #[.pointer (some ⟨rb, 0, none⟩), .int .i64 at_] w (DRead rb B (rdD B at_) (rdBV (rdB (atP B.L) B.T B.S B.W at_)) m x y a b c d w) := by
  have d1 : decide (at_ < 0) = false := by simp; omega
  have d2 : decide (65535 < at_) = false := by simp; omega
  have hdv : devB at_ = true := by unfold devB; simp; omega
  have d3 : decide (at_ < 32772) = false := by simp; omega
  have d4 : decide (at_ < 32777) = false := by simp; omega
  have d5 : decide (at_ < 32780) = false := by simp; omega
  have HR := Lib.hid (show rdB (atP B.L) B.T B.S B.W at_ = (255, 0, 0) from by unfold rdB; rw [if_neg (by omega), if_neg (by rw [hdv]; simp), if_neg (by omega), if_neg (by omega), if_neg (by omega)])
  have HS := Lib.hid (show rdD B at_ = ⟨B.L, tickT B.T, B.S, B.W, B.n + 1⟩ from by unfold rdD rdPs; rw [if_neg (by omega), if_neg (by omega)])
  rw [HR.out, HS.out]
  have HD0 := Lib.hid h
  have HV := Lib.hid (fun W => devr_c at_ W)
  have HPS := Lib.hid (fun W hW1 hW2 => pass_c rb B.T hB.t B.n hB.n W hW1 hW2)
  have hlt := h.db.hold.lt
  rw [hdv] at HV
  clear HR HS
  go_enter Tryz.func14, Tryz.ntmps14
  go_wp2_with fail
  have HL0 := Lib.hid (show Loc w.heap.size 0 0 255 0 ((w.alloc (Obj.cells #[Value.int .u8 0, Value.int .u8 0] 49)).alloc (Obj.cells #[Value.int .u8 255, Value.int .u8 0] 49)) from ⟨by go_simp; first | done | rfl, by go_simp; first | done | rfl, by go_simp; first | done | rfl, by go_simp; first | done | rfl, by go_simp, by go_simp, by go_simp, by go_simp⟩)
  have HB0 := Lib.hid (show Below w.heap.size w ((w.alloc (Obj.cells #[Value.int .u8 0, Value.int .u8 0] 49)).alloc (Obj.cells #[Value.int .u8 255, Value.int .u8 0] 49)) from by go_grown)
  refine (HV.out _).mono ?_
  rintro _ u0 ⟨rfl, hb⟩
  have HL1 := Lib.hid (HL0.out.below hb)
  have HB1 := Lib.hid (Below.trans HB0.out (hb.mono (by simp; omega)))
  have HD1 := Lib.hid (HD0.out.below HB1.out)
  obtain ⟨z0, z1, z2, z3, y0, y1, y2, y3⟩ := HL1.out
  have hz0 := klt z0
  have hz2 := klt z2
  have hr1 := HD1.out.db.hold.lt
  clear hb HL0 HB0 HV
  have HDM := HD1
  have HLM := HL1
  have HFM := Lib.hid (Fr.ofBelow (F := fun k => k = rb) HB1.out)
  clear z0 z1 z2 z3 y0 y1 y2 y3 hz0 hz2 HL1 HD1
  go_wp2_with fail
  refine (HPS.out _ HDM.out.t HDM.out.n).mono ?_
  rintro _ v ⟨rfl, ht, hn, he⟩
  have HEND := Lib.hid (fun (z : World) (hz : Fr (fun k => w.heap.size ≤ k) v z) => dread_end (B := B) (B1 := ⟨B.L, B.T, B.S, B.W, B.n⟩) (V := rdBV (255, 0, 0)) rfl HD0.out HDM.out HFM.out rfl (fun h => ⟨h, rfl⟩) (fun h => ⟨h, rfl⟩) ht hn he hz)
  obtain ⟨p0, p1, p2, p3, o0, o1, o2, o3⟩ := HLM.out.fr he.fr (by omega) (by omega)
  have hp0 := klt p0
  have hp2 := klt p2
  clear ht hn he
  go_wp2
  refine bodyPost_ret (v := .tuple #[.agg #[.int .u8 (255), .int .u8 (0)], .int .i64 0]) (by simp [results, Tryz.results14, go_sem, p0, p1, p2, p3] <;> first | done | rfl) rfl ?_
  refine HEND.out _ ?_
  repeat (first | exact Fr.refl _ _ | refine Fr.setCell ?_ _ _ (fun _ => by dsimp only; omega))
set_option maxRecDepth 100000 in
set_option maxHeartbeats 4000000 in
theorem dread_ports (rb : Nat) (B : Bd) (hB : B.May) (m x y a b c d : Value) (at_ : Int) (h0 : 32772 ≤ at_) (h1 : at_ < 32777) (w : World) (h : Dbus rb B m x y a b c d w) :
    Calls Tryz.prog 14 #[.pointer (some ⟨rb, 0, none⟩), .int .i64 at_] w (DRead rb B (rdD B at_) (rdBV (rdB (atP B.L) B.T B.S B.W at_)) m x y a b c d w) := by
  have d1 : decide (at_ < 0) = false := by simp; omega
  have d2 : decide (65535 < at_) = false := by simp; omega
  have hdv : devB at_ = true := by unfold devB; simp; omega
  have d3 : decide (at_ < 32772) = false := by simp; omega
  have d4 : decide (at_ < 32777) = true := by simp; omega
  have hw : IntKind.i64.wrap (at_ - 32772) = at_ - 32772 := IntWalk.i64_in _ (by omega)
  have HR := Lib.hid (show rdB (atP B.L) B.T B.S B.W at_ = ((rdPo B.S (at_ - 32772)).1, (rdPo B.S (at_ - 32772)).2.1, 0) from by unfold rdB; rw [if_neg (by omega), if_neg (by rw [hdv]; simp), if_neg (by omega), if_pos h1])
  have HS := Lib.hid (show rdD B at_ = ⟨B.L, tickT B.T, (readS B.S (at_ - 32772)), B.W, B.n + 1⟩ from by unfold rdD rdPs; rw [if_neg (by omega), if_pos ⟨h0, h1⟩])
  rw [HR.out, HS.out]
  have HD0 := Lib.hid h
  have HV := Lib.hid (fun W => devr_c at_ W)
  have HPS := Lib.hid (fun W hW1 hW2 => pass_c rb B.T hB.t B.n hB.n W hW1 hW2)
  have hlt := h.db.hold.lt
  have HA := Lib.hid (fun W hW => readb_c rb B.L m B.S x y a b c d (at_ - 32772) W hW)
  unfold ReadEndB at HA
  generalize (rdPo B.S (at_ - 32772)).1 = V at *
  generalize (rdPo B.S (at_ - 32772)).2.1 = T at *
  rw [hdv] at HV
  clear HR HS
  go_enter Tryz.func14, Tryz.ntmps14
  go_wp2_with fail
  have HL0 := Lib.hid (show Loc w.heap.size 0 0 255 0 ((w.alloc (Obj.cells #[Value.int .u8 0, Value.int .u8 0] 49)).alloc (Obj.cells #[Value.int .u8 255, Value.int .u8 0] 49)) from ⟨by go_simp; first | done | rfl, by go_simp; first | done | rfl, by go_simp; first | done | rfl, by go_simp; first | done | rfl, by go_simp, by go_simp, by go_simp, by go_simp⟩)
  have HB0 := Lib.hid (show Below w.heap.size w ((w.alloc (Obj.cells #[Value.int .u8 0, Value.int .u8 0] 49)).alloc (Obj.cells #[Value.int .u8 255, Value.int .u8 0] 49)) from by go_grown)
  refine (HV.out _).mono ?_
  rintro _ u0 ⟨rfl, hb⟩
  have HL1 := Lib.hid (HL0.out.below hb)
  have HB1 := Lib.hid (Below.trans HB0.out (hb.mono (by simp; omega)))
  have HD1 := Lib.hid (HD0.out.below HB1.out)
  obtain ⟨z0, z1, z2, z3, y0, y1, y2, y3⟩ := HL1.out
  have hz0 := klt z0
  have hz2 := klt z2
  have hr1 := HD1.out.db.hold.lt
  clear hb HL0 HB0 HV
  go_wp2_with fail
  refine (HA.out _ HD1.out.db).mono ?_
  rintro _ u ⟨rfl, ⟨hf, hk⟩, x', y', hdb, hx, hy⟩
  obtain ⟨z0, z1, z2, z3, y0, y1, y2, y3⟩ := HL1.out.fr hf (by omega) (by omega)
  have hz0 := klt z0
  have hz2 := klt z2
  have hE := Eo.ofEk hr1 hf hk
  have HDu := Lib.hid (show Dbus rb ⟨B.L, B.T, readS B.S (at_ - 32772), B.W, B.n⟩ m x' y' a b c d u from ⟨hdb, HD1.out.t.eo hE (fun j hj hk => by unfold kT at hj; unfold kP at hk; omega), HD1.out.h.eo hE (fun j hj hk => by unfold kW at hj; unfold kP at hk; omega), HD1.out.n.eo hE (fun hk => by unfold kP at hk; omega)⟩)
  have HFu := Lib.hid ((Fr.ofBelow (F := fun k => k = rb) HB1.out).trans hf (fun _ _ e => e))
  have hr2 := HDu.out.db.hold.lt
  have HXY := Lib.hid (And.intro hx hy)
  clear HL1 HD1 hE hf hk hdb hx hy
  go_wp2_with fail
  have HFM := Lib.hid ((HFu.out.setCell ⟨w.heap.size + 1, 0, none⟩ (.int .u8 V) (fun h => by dsimp only at h; omega)).setCell ⟨w.heap.size + 1, 1, none⟩ (.int .u8 T) (fun h => by dsimp only at h; omega))
  have HLM := Lib.hid (show Loc w.heap.size 0 0 V T ((u.setCell ⟨w.heap.size + 1, 0, none⟩ (.int .u8 V)).setCell ⟨w.heap.size + 1, 1, none⟩ (.int .u8 T)) from ⟨by go_simp, by go_simp, by go_simp, by go_simp, by go_simp, by go_simp, by go_simp, by go_simp⟩)
  have HSub := Lib.hid (readS_subB B.S (at_ - 32772))
  have HRB := Lib.hid (readS_rB B.L m B.S (at_ - 32772) a b c d)
  have HDM := Lib.hid (HDu.out.fr (H := fun k => w.heap.size ≤ k) (((Fr.refl _ _).setCell ⟨w.heap.size + 1, 0, none⟩ (.int .u8 V) (fun _ => by dsimp only; omega)).setCell ⟨w.heap.size + 1, 1, none⟩ (.int .u8 T) (fun _ => by dsimp only; omega)) (fun k hk hw => by
    have : hangB rb B m x y a b c d k := by
      rcases hk with hk | ⟨hl, hk⟩ | ⟨hl, hk⟩
      · exact .inl (by dsimp only at hk; rw [HRB.out] at hk; exact hk)
      · exact .inr (.inl ⟨some_iff.2 (HSub.out.1 (some_iff.1 hl)), by rw [← HXY.out.1 (some_iff.1 hl)]; exact hk⟩)
      · exact .inr (.inr ⟨some_iff.2 (HSub.out.2 (some_iff.1 hl)), by rw [← HXY.out.2 (some_iff.1 hl)]; exact hk⟩)
    have := HD0.out.lt k this
    omega))
  clear z0 z1 z2 z3 y0 y1 y2 y3 hz0 hz2
  go_wp2_with fail
  refine (HPS.out _ HDM.out.t HDM.out.n).mono ?_
  rintro _ v ⟨rfl, ht, hn, he⟩
  have HEND := Lib.hid (fun (z : World) (hz : Fr (fun k => w.heap.size ≤ k) v z) => dread_end (B := B) (B1 := ⟨B.L, B.T, (readS B.S (at_ - 32772)), B.W, B.n⟩) (V := rdBV (V, T, 0)) rfl HD0.out HDM.out HFM.out HRB.out (fun h => ⟨HSub.out.1 h, HXY.out.1 h⟩) (fun h => ⟨HSub.out.2 h, HXY.out.2 h⟩) ht hn he hz)
  obtain ⟨p0, p1, p2, p3, o0, o1, o2, o3⟩ := HLM.out.fr he.fr (by omega) (by omega)
  have hp0 := klt p0
  have hp2 := klt p2
  clear ht hn he
  go_wp2
  refine bodyPost_ret (v := .tuple #[.agg #[.int .u8 (V), .int .u8 (T)], .int .i64 0]) (by simp [results, Tryz.results14, go_sem, p0, p1, p2, p3] <;> first | done | rfl) rfl ?_
  refine HEND.out _ ?_
  repeat (first | exact Fr.refl _ _ | refine Fr.setCell ?_ _ _ (fun _ => by dsimp only; omega))
set_option maxRecDepth 100000 in
theorem dread_bad (rb : Nat) (B : Bd) (m x y a b c d : Value) (at_ : Int) (h0 : at_ < 0 ∨ 65535 < at_) (w : World) (h : Dbus rb B m x y a b c d w) :
    Calls Tryz.prog 14 #[.pointer (some ⟨rb, 0, none⟩), .int .i64 at_] w (DRead rb B (rdD B at_) (rdBV (rdB (atP B.L) B.T B.S B.W at_)) m x y a b c d w) := by
  have HR := Lib.hid (show rdB (atP B.L) B.T B.S B.W at_ = (0, 0, 10) from by unfold rdB; rw [if_pos h0])
  have HS := Lib.hid (show rdD B at_ = B from by unfold rdD; rw [if_pos h0])
  rw [HR.out, HS.out]
  have HD0 := Lib.hid h
  have HEND := Lib.hid (fun (z : World) (hz : Below w.heap.size w z) => (show DRead rb B B (rdBV (0, 0, 10)) m x y a b c d w (.returned (rdBV (0, 0, 10))) z from ⟨rfl, Fr.ofBelow hz, x, y, h.below hz, rfl, fun h => ⟨h, rfl⟩, fun h => ⟨h, rfl⟩⟩))
  have hd : decide (at_ < 0) = true ∨ decide (at_ < 0) = false ∧ decide (65535 < at_) = true := by simp; omega
  clear h h0 HR HS HD0
  rcases hd with hd | ⟨hd, hd2⟩
  all_goals
    go_enter Tryz.func14, Tryz.ntmps14
    go_wp2
    refine bodyPost_ret (v := .tuple #[.agg #[.int .u8 0, .int .u8 0], .int .i64 10]) (by simp [results, Tryz.results14, go_sem] <;> first | done | rfl) rfl ?_
    exact HEND.out _ (by go_grown)
theorem dread_c (rb : Nat) (B : Bd) (hB : B.May) (m x y a b c d : Value) (at_ : Int) (w : World) (h : Dbus rb B m x y a b c d w) :
    Calls Tryz.prog 14 #[.pointer (some ⟨rb, 0, none⟩), .int .i64 at_] w (DRead rb B (rdD B at_) (rdBV (rdB (atP B.L) B.T B.S B.W at_)) m x y a b c d w) := by
  by_cases h0 : at_ < 0 ∨ 65535 < at_
  · exact dread_bad rb B m x y a b c d at_ h0 w h
  · by_cases h1 : devB at_ = false
    · exact dread_mem rb B hB m x y a b c d at_ (by omega) (by omega) h1 w h
    · have h2 : 32768 ≤ at_ ∧ at_ < 32784 := by
        have : devB at_ = true := by simpa using h1
        unfold devB at this; simpa using this
      by_cases h3 : at_ < 32772
      · exact dread_timer rb B hB m x y a b c d at_ h2.1 h3 w h
      · by_cases h4 : at_ < 32777
        · exact dread_ports rb B hB m x y a b c d at_ (by omega) h4 w h
        · by_cases h5 : at_ < 32780
          · exact dread_wheel rb B hB m x y a b c d at_ (by omega) h5 w h
          · exact dread_none rb B hB m x y a b c d at_ (by omega) h2.2 w h
end Go.Proofs.YtcnejgilmciljaaGreatDoor
