/-
  The document's bus: Write (genw13.py writes it); both as things that lie in memory.
-/
import Derived.Test.YtcnejgilmciljaaGreatDoorDbus13
import Derived.Test.YtcnejgilmciljaaGreatDoorPlanXD
import Derived.Test.YtcnejgilmciljaaGreatDoorGrown
set_option linter.unusedSimpArgs false
set_option linter.unusedVariables false
namespace Go.Proofs.YtcnejgilmciljaaGreatDoor
open Go.RowKit Go.PlainAid

/-- What a Write answers: the rule, the error; what it makes of the parts. -/
def wrB (S : Po) (a t : Int) : Int × Int := if a < 0 ∨ 65535 < a then (0, 10) else if sinkB a t = true then (4, 20) else if 32772 ≤ a ∧ a < 32777 then writeE S (a - 32772) t else (0, 0)
def wrT (T : Tm) (a v : Int) : Tm := if 32768 ≤ a ∧ a < 32772 then writeT T (a - 32768) v else T
def wrPs (S : Po) (a v t n : Int) : Po := if 32772 ≤ a ∧ a < 32777 then wrPo S (a - 32772) v t n else S
def wrWh (W : Wh) (a v : Int) : Wh := if a = 32777 then rollW W v else W
def wrD (B : Bd) (a v t : Int) : Bd := if (wrB B.S a t).2 ≠ 0 then B else ⟨(writeP B.L ⟨a, v, t⟩).2, tickT (wrT B.T a v), wrPs B.S a v t B.n, wrWh B.W a v, B.n + 1⟩
def wrBV (X : Int × Int) : Value := .tuple #[.int .i64 X.1, .int .i64 X.2]
/-- What the document's Write leaves. -/
def DWrite (rb : Nat) (B B' : Bd) (V : Value) (m x y a b c d : Value) (w : World) : Ending → World → Prop := fun e w' =>
  e = .returned V ∧ ∃ m' a' b' c' d', Dbus rb B' m' x y a' b' c' d' w' ∧ Fr (foot rb (rB B.L m B.S a b c d)) w w' ∧ (∀ k, foot rb (rB B'.L m' B'.S a' b' c' d') k → foot rb (rB B.L m B.S a b c d) k ∨ w.heap.size ≤ k) ∧ B'.S.pub = B.S.pub ∧ B'.S.sec = B.S.sec
theorem dwrite_end {rb : Nat} {B B1 : Bd} {V : Value} {m x y a b c d m1 a1 b1 c1 d1 : Value} {w u v : World} (h : Dbus rb B1 m1 x y a1 b1 c1 d1 u) (hf : Fr (foot rb (rB B.L m B.S a b c d)) w u)
    (hft : ∀ k, foot rb (rB B1.L m1 B1.S a1 b1 c1 d1) k → foot rb (rB B.L m B.S a b c d) k ∨ w.heap.size ≤ k) (hp : B1.S.pub = B.S.pub) (hs : B1.S.sec = B.S.sec) (ht : Tw rb 1 (tickT B1.T) v) (hn : Nn rb (B1.n + 1) v) (e : Eo rb kTN u v) :
    DWrite rb B ⟨B1.L, tickT B1.T, B1.S, B1.W, B1.n + 1⟩ V m x y a b c d w (.returned V) v :=
  ⟨rfl, m1, a1, b1, c1, d1, h.passed ht hn e, hf.trans e.fr (fun k _ hk => .inl hk), hft, hp, hs⟩
theorem dwrite_no {rb : Nat} {B : Bd} {V : Value} {m x y a b c d : Value} {w v : World} (h : Dbus rb B m x y a b c d w) (hb : Below w.heap.size w v) : DWrite rb B B V m x y a b c d w (.returned V) v :=
  ⟨rfl, m, a, b, c, d, h.below hb, Fr.ofBelow hb, fun k hk => .inl hk, rfl, rfl⟩
/-- The box of a byte. -/
structure Bx (n : Nat) (v t : Int) (W : World) : Prop where
  c0 : W.cell? ⟨n, 0, none⟩ = some (.int .u8 v)
  c1 : W.cell? ⟨n, 1, none⟩ = some (.int .u8 t)
theorem Bx.fr {n : Nat} {v t : Int} {w u : World} {H : Nat → Prop} (h : Bx n v t w) (hf : Fr H w u) (hn : ¬ H n) : Bx n v t u := ⟨hf.cell h.c0 hn, hf.cell h.c1 hn⟩
theorem Tw.at_ {rb : Nat} {T : Tm} {w u : World} (h : Tw rb 1 T w) (e : ∀ j, kT j → u.cell? ⟨rb, j, none⟩ = w.cell? ⟨rb, j, none⟩ ∧ u.frozen? ⟨rb, j, none⟩ = w.frozen? ⟨rb, j, none⟩) : Tw rb 1 T u :=
  ⟨fun i v hv => by
      have hi : i < 6 := by
        have := (List.getElem?_eq_some_iff.1 hv).1
        simpa [tmV] using this
      exact ((e (1 + i) (by unfold kT; omega)).1).trans (h.c i v hv),
    fun i hi => ((e (1 + i) (by unfold kT; omega)).2).trans (h.f i hi)⟩
theorem Rk.at_ {rb : Nat} {R : Wh} {w u : World} (h : Rk rb R w) (e : ∀ j, kW j → u.cell? ⟨rb, j, none⟩ = w.cell? ⟨rb, j, none⟩ ∧ u.frozen? ⟨rb, j, none⟩ = w.frozen? ⟨rb, j, none⟩) : Rk rb R u :=
  have k : ∀ j, 13 ≤ j ∧ j ≤ 16 → kW j := fun j hj => hj
  ⟨((e 13 (k _ (by omega))).1).trans h.c0, ((e 14 (k _ (by omega))).1).trans h.c1, ((e 15 (k _ (by omega))).1).trans h.c2, ((e 16 (k _ (by omega))).1).trans h.c3,
   ((e 13 (k _ (by omega))).2).trans h.f0, ((e 14 (k _ (by omega))).2).trans h.f1, ((e 15 (k _ (by omega))).2).trans h.f2, ((e 16 (k _ (by omega))).2).trans h.f3⟩
theorem Nn.at_ {rb : Nat} {n : Int} {w u : World} (h : Nn rb n w) (e : u.cell? ⟨rb, 17, none⟩ = w.cell? ⟨rb, 17, none⟩ ∧ u.frozen? ⟨rb, 17, none⟩ = w.frozen? ⟨rb, 17, none⟩) : Nn rb n u := ⟨e.1.trans h.c, e.2.trans h.f⟩
theorem writeP_dev (L : List Pt) (a v t : Int) (h : devB a = true) : (writeP L ⟨a, v, t⟩).2 = L := by
  unfold writeP
  dsimp only
  rw [if_pos h]
  split <;> rfl
theorem wrPo_inputs (S : Po) (reg v t cy : Int) : (wrPo S reg v t cy).pub = S.pub ∧ (wrPo S reg v t cy).sec = S.sec := by
  unfold wrPo
  split
  · exact ⟨rfl, rfl⟩
  · split
    · exact ⟨rfl, rfl⟩
    · split
      · exact ⟨rfl, rfl⟩
      · split <;> exact ⟨rfl, rfl⟩
theorem wrPo_no {S : Po} {reg v t cy : Int} (h : (writeE S reg t).2 ≠ 0) : wrPo S reg v t cy = S := by unfold wrPo; rw [if_pos h]
set_option maxRecDepth 100000 in
theorem dwrite_bad (rb : Nat) (B : Bd) (m x y a b c d : Value) (at_ v t : Int) (h0 : at_ < 0 ∨ 65535 < at_) (w : World) (h : Dbus rb B m x y a b c d w) :
    Calls Tryz.prog 12 #[.pointer (some ⟨rb, 0, none⟩), .int .i64 at_, .agg #[.int .u8 v, .int .u8 t]] w (DWrite rb B (wrD B at_ v t) (wrBV (wrB B.S at_ t)) m x y a b c d w) := by
  have HR := Lib.hid (show wrB B.S at_ t = (0, 10) from by unfold wrB; rw [if_pos h0])
  have HS := Lib.hid (show wrD B at_ v t = B from by unfold wrD; rw [HR.out, if_pos (by decide)])
  rw [HR.out, HS.out]
  have HEND := Lib.hid (fun (z : World) (hz : Below w.heap.size w z) => dwrite_no (V := wrBV (0, 10)) h hz)
  have hd : decide (at_ < 0) = true ∨ decide (at_ < 0) = false ∧ decide (65535 < at_) = true := by simp; omega
  clear h h0 HR HS
  rcases hd with hd | ⟨hd, hd2⟩
  all_goals
    go_enter Tryz.func12, Tryz.ntmps12
    go_wp2
    go_ret2
    exact HEND.out _ (by go_grown)
set_option maxRecDepth 100000 in
set_option maxHeartbeats 8000000 in
theorem dwrite_sink (rb : Nat) (B : Bd) (hB : B.May) (m x y a b c d : Value) (at_ v t : Int) (hv : 0 ≤ v ∧ v ≤ 255) (ht : 0 ≤ t ∧ t ≤ 255) (h0 : 0 ≤ at_) (h1 : at_ ≤ 65535) (hs : sinkB at_ t = true) (w : World) (h : Dbus rb B m x y a b c d w) :
    Calls Tryz.prog 12 #[.pointer (some ⟨rb, 0, none⟩), .int .i64 at_, .agg #[.int .u8 v, .int .u8 t]] w (DWrite rb B (wrD B at_ v t) (wrBV (wrB B.S at_ t)) m x y a b c d w) := by
  have d1 : decide (at_ < 0) = false := by simp; omega
  have d2 : decide (65535 < at_) = false := by simp; omega
  have HD0 := Lib.hid h
  have HV := Lib.hid (fun W => sink_c at_ v t W)
  have HPS := Lib.hid (fun T hT W hW1 hW2 => pass_c rb T hT B.n hB.n W hW1 hW2)
  have hlt := h.db.hold.lt

  have HR := Lib.hid (show wrB B.S at_ t = (4, 20) from by unfold wrB; rw [if_neg (by omega), if_pos hs])
  have HS := Lib.hid (show wrD B at_ v t = B from by unfold wrD; rw [HR.out, if_pos (by decide)])
  rw [HR.out, HS.out]
  rw [hs] at HV
  clear h HR HS hs h0 h1 hv ht
  go_enter Tryz.func12, Tryz.ntmps12
  go_wp2_with fail
  have HX0 := Lib.hid (show Bx w.heap.size v t (w.alloc (Obj.cells #[Value.int .u8 v, Value.int .u8 t] 49)) from ⟨by go_simp; first | done | rfl, by go_simp; first | done | rfl⟩)
  have HB0 := Lib.hid (show Below w.heap.size w (w.alloc (Obj.cells #[Value.int .u8 v, Value.int .u8 t] 49)) from by go_grown)
  refine (HV.out _).mono ?_
  rintro _ u0 ⟨rfl, hb⟩
  have HX1 := Lib.hid (HX0.out.fr (Fr.ofBelow (F := fun _ => False) hb) (fun f => f))
  have HB1 := Lib.hid (Below.trans HB0.out (hb.mono (by simp)))
  have HD1 := Lib.hid (HD0.out.below HB1.out)
  obtain ⟨y0, y1⟩ := HX1.out
  have hy0 := klt y0
  have hr1 := HD1.out.db.hold.lt
  clear hb HB0 HX0 HV
  go_wp2
  go_ret2
  exact dwrite_no HD0.out HB1.out
set_option maxRecDepth 100000 in
set_option maxHeartbeats 8000000 in
theorem dwrite_timer (rb : Nat) (B : Bd) (hB : B.May) (m x y a b c d : Value) (at_ v t : Int) (hv : 0 ≤ v ∧ v ≤ 255) (ht : 0 ≤ t ∧ t ≤ 255) (h0 : 32768 ≤ at_) (h1 : at_ < 32772) (hs : sinkB at_ t = false) (w : World) (h : Dbus rb B m x y a b c d w) :
    Calls Tryz.prog 12 #[.pointer (some ⟨rb, 0, none⟩), .int .i64 at_, .agg #[.int .u8 v, .int .u8 t]] w (DWrite rb B (wrD B at_ v t) (wrBV (wrB B.S at_ t)) m x y a b c d w) := by
  have d1 : decide (at_ < 0) = false := by simp; omega
  have d2 : decide (65535 < at_) = false := by simp; omega
  have HD0 := Lib.hid h
  have HV := Lib.hid (fun W => sink_c at_ v t W)
  have HPS := Lib.hid (fun T hT W hW1 hW2 => pass_c rb T hT B.n hB.n W hW1 hW2)
  have hlt := h.db.hold.lt
  have d3 : decide (32772 ≤ at_) = false := by simp; omega
  have d5 : decide (32768 ≤ at_) = true := by simp; omega
  have d6 : decide (at_ < 32772) = true := by simp; omega
  have hw : IntKind.i64.wrap (at_ - 32768) = at_ - 32768 := IntWalk.i64_in _ (by omega)
  have hwv : IntKind.i64.wrap v = v := IntWalk.i64_in _ (by omega)
  have HR := Lib.hid (show wrB B.S at_ t = (0, 0) from by unfold wrB; rw [if_neg (by omega), if_neg (by rw [hs]; simp), if_neg (by omega)])
  have HS := Lib.hid (show wrD B at_ v t = ⟨B.L, tickT (writeT B.T (at_ - 32768) v), B.S, B.W, B.n + 1⟩ from by unfold wrD wrT wrPs wrWh; rw [HR.out, if_neg (by decide), if_pos ⟨h0, h1⟩, if_neg (by omega), if_neg (by omega), writeP_dev _ _ _ _ (by unfold devB; simp; omega)])
  rw [HR.out, HS.out]
  rw [hs] at HV
  have HA := Lib.hid (fun W => writed_c B.T (at_ - 32768) v hB.t hv W)
  have HTM := Lib.hid (writeT_may B.T (at_ - 32768) v hB.t hv)
  obtain ⟨Y, hY⟩ : ∃ Y, writeT B.T (at_ - 32768) v = Y := ⟨_, rfl⟩
  rw [hY] at HA HTM ⊢
  clear h HR HS hs h0 h1 hv ht hY
  go_enter Tryz.func12, Tryz.ntmps12
  go_wp2_with fail
  have HX0 := Lib.hid (show Bx w.heap.size v t (w.alloc (Obj.cells #[Value.int .u8 v, Value.int .u8 t] 49)) from ⟨by go_simp; first | done | rfl, by go_simp; first | done | rfl⟩)
  have HB0 := Lib.hid (show Below w.heap.size w (w.alloc (Obj.cells #[Value.int .u8 v, Value.int .u8 t] 49)) from by go_grown)
  refine (HV.out _).mono ?_
  rintro _ u0 ⟨rfl, hb⟩
  have HX1 := Lib.hid (HX0.out.fr (Fr.ofBelow (F := fun _ => False) hb) (fun f => f))
  have HB1 := Lib.hid (Below.trans HB0.out (hb.mono (by simp)))
  have HD1 := Lib.hid (HD0.out.below HB1.out)
  obtain ⟨y0, y1⟩ := HX1.out
  have hy0 := klt y0
  have hr1 := HD1.out.db.hold.lt
  clear hb HB0 HX0 HV
  go_wp2_with fail
  obtain ⟨t0, t1, t2, t3, t4, t5⟩ := HD1.out.t.at1
  obtain ⟨f0, f1, f2, f3, f4, f5⟩ := HD1.out.t.free1
  have hp_0 := t0
  have hp_1 := t1
  have hp_2 := t2
  have hp_3 := t3
  have hp_4 := t4
  have hp_5 := t5
  have fp_0 := f0
  have fp_1 := f1
  have fp_2 := f2
  have fp_3 := f3
  have fp_4 := f4
  have fp_5 := f5
  have hq_0 := y0
  have hq_1 := y1
  have hB := Below.refl u0.heap.size u0
  refine wp_region_planT 11 (fun w' => w'.cell? ⟨rb, 1, none⟩ = some (.int .i64 B.T.l) ∧ w'.frozen? ⟨rb, 1, none⟩ = false ∧ w'.cell? ⟨rb, 1 + 1, none⟩ = some (.int .i64 B.T.c) ∧ w'.frozen? ⟨rb, 1 + 1, none⟩ = false ∧ w'.cell? ⟨rb, 1 + 2, none⟩ = some (.bool B.T.r) ∧ w'.frozen? ⟨rb, 1 + 2, none⟩ = false ∧ w'.cell? ⟨rb, 1 + 3, none⟩ = some (.bool B.T.a) ∧ w'.frozen? ⟨rb, 1 + 3, none⟩ = false ∧ w'.cell? ⟨rb, 1 + 4, none⟩ = some (.bool B.T.s) ∧ w'.frozen? ⟨rb, 1 + 4, none⟩ = false ∧ w'.cell? ⟨rb, 1 + 5, none⟩ = some (.bool B.T.g) ∧ w'.frozen? ⟨rb, 1 + 5, none⟩ = false ∧ w'.cell? ⟨w.heap.size, 0, none⟩ = some (.int .u8 v) ∧ w'.cell? ⟨w.heap.size, 1, none⟩ = some (.int .u8 t) ∧ Below u0.heap.size u0 w') (by kernel_rfl) (by kernel_rfl) (by kernel_rfl) (by kernel_rfl) ?_ ?_
  · (try dsimp only)
    refine ⟨?_, ?_, ?_, ?_, ?_, ?_, ?_, ?_, ?_, ?_, ?_, ?_, ?_, ?_, ?_⟩ <;> first | (go_simp; done) | (simp [*]; done) | go_grown
  (try simp only [List.append_eq, List.cons_append, List.nil_append, List.toList_toArray, List.take_succ_cons, List.take_zero, List.drop_succ_cons, List.drop_zero])
  repeat (first
    | (refine Plan.val (v := ?_) ?_ ?_ ?_; rotate_left; (· rfl); (· (intro W hSw; (try dsimp only at hSw); go_simp; all_goals (first | (with_reducible rfl) | (constructor <;> (with_reducible rfl)) | (rw [if_neg (by omega)]; done) | (rw [if_neg (by omega)]; with_reducible rfl)))); (try simp only [Act.put, List.setIfInBounds_toArray, List.set_cons_zero, List.set_cons_succ]))
    | (refine Plan.no ?_ ?_; (· rfl); (try simp only [Act.put, List.setIfInBounds_toArray, List.set_cons_zero, List.set_cons_succ]))
    | (refine Plan.call (v := ?_) (f := ?_) (args := ?_) ?_ ?_ ?_ ?_; rotate_left 3; (· rfl); (· (intro W hSw; (try dsimp only at hSw); go_simp; all_goals (first | (with_reducible rfl) | (constructor <;> (with_reducible rfl)) | (rw [if_neg (by omega)]; done) | (rw [if_neg (by omega)]; with_reducible rfl)))); (· (intro W hSw; (try dsimp only at hSw); first | (go_at_call 44; ((with_reducible refine (HA.out _).mono ?_); rintro _ wz ⟨rfl, hb⟩; (refine ⟨?_, ?_⟩; (· with_reducible rfl); exact ⟨kc hb hSw.1, kfz hb (klt hSw.1) hSw.2.1, kc hb hSw.2.2.1, kfz hb (klt hSw.2.2.1) hSw.2.2.2.1, kc hb hSw.2.2.2.2.1, kfz hb (klt hSw.2.2.2.2.1) hSw.2.2.2.2.2.1, kc hb hSw.2.2.2.2.2.2.1, kfz hb (klt hSw.2.2.2.2.2.2.1) hSw.2.2.2.2.2.2.2.1, kc hb hSw.2.2.2.2.2.2.2.2.1, kfz hb (klt hSw.2.2.2.2.2.2.2.2.1) hSw.2.2.2.2.2.2.2.2.2.1, kc hb hSw.2.2.2.2.2.2.2.2.2.2.1, kfz hb (klt hSw.2.2.2.2.2.2.2.2.2.2.1) hSw.2.2.2.2.2.2.2.2.2.2.2.1, kc hb hSw.2.2.2.2.2.2.2.2.2.2.2.2.1, kc hb hSw.2.2.2.2.2.2.2.2.2.2.2.2.2.1, kb hSw.2.2.2.2.2.2.2.2.2.2.2.2.2.2 hb⟩))))); (try simp only [Act.put, List.setIfInBounds_toArray, List.set_cons_zero, List.set_cons_succ])))
  refine Plan.done ?_
  intro u1 T
  (try dsimp only at T)
  obtain ⟨hp_0, fp_0, hp_1, fp_1, hp_2, fp_2, hp_3, fp_3, hp_4, fp_4, hp_5, fp_5, hq_0, hq_1, hB⟩ := T
  have hsz := hB.size
  have hlp := klt hp_0
  have hlq := klt hq_0
  obtain ⟨hnp0, hnp1, hkp1, hnp2, hkp2⟩ := ap0 hlp
  obtain ⟨hnq0, hnq1, hkq1, hnq2, hkq2⟩ := ap0 hlq
  have HDu := Lib.hid (HD1.out.below hB)
  have HBu := Lib.hid (Below.trans HB1.out (hB.mono HB1.out.size))
  have hr2 := HDu.out.db.hold.lt
  go_wp2_with fail
  have HQ := Lib.hid (HDu.out.t.store1 Y)
  have HE := Lib.hid (Eo.ofTq hr2 HQ.out)
  have HDM := Lib.hid (show Dbus rb ⟨B.L, Y, B.S, B.W, B.n⟩ m x y a b c d _ from ⟨HDu.out.db.eo HE.out (fun j hj hk => by unfold kT at hk; omega), HQ.out.t, HDu.out.h.eo HE.out (fun j hj hk => by unfold kW at hj; unfold kT at hk; omega), HDu.out.n.eo HE.out (fun hk => by unfold kT at hk; omega)⟩)
  have HFM := Lib.hid ((Fr.ofBelow (F := foot rb (rB B.L m B.S a b c d)) HBu.out).trans HE.out.fr (fun k _ hk => .inl hk))
  have HGM := Lib.hid (show ∀ k, foot rb (rB B.L m B.S a b c d) k → foot rb (rB B.L m B.S a b c d) k ∨ w.heap.size ≤ k from fun k hk => .inl hk)
  go_wp2_with fail
  refine (HPS.out _ HTM.out _ HDM.out.t HDM.out.n).mono ?_
  rintro _ z ⟨rfl, ht, hn, he⟩
  have HEND := Lib.hid (dwrite_end (B := B) (V := wrBV (0, 0)) HDM.out HFM.out HGM.out rfl rfl ht hn he)
  clear ht hn he
  go_wp2
  go_ret2
  exact HEND.out
set_option maxRecDepth 100000 in
set_option maxHeartbeats 8000000 in
theorem dwrite_wheel (rb : Nat) (B : Bd) (hB : B.May) (m x y a b c d : Value) (at_ v t : Int) (hv : 0 ≤ v ∧ v ≤ 255) (ht : 0 ≤ t ∧ t ≤ 255) (h0 : at_ = 32777) (hs : sinkB at_ t = false) (w : World) (h : Dbus rb B m x y a b c d w) :
    Calls Tryz.prog 12 #[.pointer (some ⟨rb, 0, none⟩), .int .i64 at_, .agg #[.int .u8 v, .int .u8 t]] w (DWrite rb B (wrD B at_ v t) (wrBV (wrB B.S at_ t)) m x y a b c d w) := by
  have d1 : decide (at_ < 0) = false := by simp; omega
  have d2 : decide (65535 < at_) = false := by simp; omega
  have HD0 := Lib.hid h
  have HV := Lib.hid (fun W => sink_c at_ v t W)
  have HPS := Lib.hid (fun T hT W hW1 hW2 => pass_c rb T hT B.n hB.n W hW1 hW2)
  have hlt := h.db.hold.lt
  have d3 : decide (32772 ≤ at_) = true := by simp; omega
  have d4 : decide (at_ < 32777) = false := by simp; omega
  have d5 : decide (32768 ≤ at_) = true := by simp; omega
  have d6 : decide (at_ < 32772) = false := by simp; omega
  have d7 : (at_ == 32777) = true := by simpa using h0
  have HR := Lib.hid (show wrB B.S at_ t = (0, 0) from by unfold wrB; rw [if_neg (by omega), if_neg (by rw [hs]; simp), if_neg (by omega)])
  have HS := Lib.hid (show wrD B at_ v t = ⟨B.L, tickT B.T, B.S, rollW B.W v, B.n + 1⟩ from by unfold wrD wrT wrPs wrWh; rw [HR.out, if_neg (by decide), if_neg (by omega), if_neg (by omega), if_pos h0, writeP_dev _ _ _ _ (by unfold devB; simp; omega)])
  rw [HR.out, HS.out]
  rw [hs] at HV
  have HA := Lib.hid (fun W hW => wheelb_c rb B.W hB.w v hv W hW)
  have HTM := Lib.hid hB.t
  obtain ⟨Y, hY⟩ : ∃ Y, rollW B.W v = Y := ⟨_, rfl⟩
  rw [hY] at HA ⊢
  clear h HR HS hs h0 hv ht hY
  go_enter Tryz.func12, Tryz.ntmps12
  go_wp2_with fail
  have HX0 := Lib.hid (show Bx w.heap.size v t (w.alloc (Obj.cells #[Value.int .u8 v, Value.int .u8 t] 49)) from ⟨by go_simp; first | done | rfl, by go_simp; first | done | rfl⟩)
  have HB0 := Lib.hid (show Below w.heap.size w (w.alloc (Obj.cells #[Value.int .u8 v, Value.int .u8 t] 49)) from by go_grown)
  refine (HV.out _).mono ?_
  rintro _ u0 ⟨rfl, hb⟩
  have HX1 := Lib.hid (HX0.out.fr (Fr.ofBelow (F := fun _ => False) hb) (fun f => f))
  have HB1 := Lib.hid (Below.trans HB0.out (hb.mono (by simp)))
  have HD1 := Lib.hid (HD0.out.below HB1.out)
  obtain ⟨y0, y1⟩ := HX1.out
  have hy0 := klt y0
  have hr1 := HD1.out.db.hold.lt
  clear hb HB0 HX0 HV
  go_wp2_with fail
  refine wp_region_planXD 9 6 5 (fun bo W => Bx w.heap.size v t W ∧  bif bo then (∃ W0, Below u0.heap.size u0 W0 ∧ Rk rb Y W ∧ Eo rb kW W0 W) else Below u0.heap.size u0 W) (by decide) (by kernel_rfl) (by kernel_rfl) (by kernel_rfl) (by kernel_rfl) ?_ ?_
  · (try dsimp only)
    refine ⟨⟨y0, y1⟩,  ?_⟩
    (try simp only [cond_false]); exact Below.drew (Below.refl _ _)
  (try simp only [List.append_eq, List.cons_append, List.nil_append, List.toList_toArray, List.take_succ_cons, List.take_zero, List.drop_succ_cons, List.drop_zero])
  repeat (first
    | (refine PlanX.val (v := ?_) (by decide) ?_ ?_ ?_; rotate_left; (· rfl); (· (intro bo W hSw; obtain ⟨⟨bx0, bx1⟩,  -⟩ := hSw; go_simp; all_goals (first | (with_reducible rfl) | (constructor <;> (with_reducible rfl))))); (try simp only [Act.put, List.setIfInBounds_toArray, List.set_cons_zero, List.set_cons_succ]))
    | (refine PlanX.turn (v := .tuple #[]) (f := ?_) (args := ?_) (by decide) ?_ ?_ ?_ ?_; rotate_left 2; (· rfl); (· (intro W hSw; obtain ⟨⟨bx0, bx1⟩,  -⟩ := hSw; go_simp; all_goals (first | (with_reducible rfl) | (constructor <;> (with_reducible rfl))))); (· (intro W hSw; exact (HA.out W (HD1.out.h.fr (Fr.ofBelow (F := fun _ => False) hSw.2) (fun f => f))).mono fun e w' ⟨h1, h2, h3⟩ => ⟨h1, hSw.1.fr h3.fr (by omega), W, hSw.2, h2, h3⟩)); (try simp only [Act.put, List.setIfInBounds_toArray, List.set_cons_zero, List.set_cons_succ])))
  refine PlanX.done ?_
  intro U T0
  obtain ⟨⟨a0, a1⟩, W0, hbW, hRk, hE⟩ := T0
  have HDW := Lib.hid (HD1.out.below hbW)
  have HBW := Lib.hid (Below.trans HB1.out (hbW.mono HB1.out.size))
  have HDM := Lib.hid (show Dbus rb ⟨B.L, B.T, B.S, Y, B.n⟩ m x y a b c d U from ⟨HDW.out.db.eo hE (fun j hj hk => by unfold kW at hk; omega), HDW.out.t.eo hE (fun j hj hk => by unfold kT at hj; unfold kW at hk; omega), hRk, HDW.out.n.eo hE (fun hk => by unfold kW at hk; omega)⟩)
  have HFM := Lib.hid ((Fr.ofBelow (F := foot rb (rB B.L m B.S a b c d)) HBW.out).trans hE.fr (fun k _ hk => .inl hk))
  have HGM := Lib.hid (show ∀ k, foot rb (rB B.L m B.S a b c d) k → foot rb (rB B.L m B.S a b c d) k ∨ w.heap.size ≤ k from fun k hk => .inl hk)
  clear hbW hRk hE a0 a1 y0 y1
  go_wp2_with fail
  refine (HPS.out _ HTM.out _ HDM.out.t HDM.out.n).mono ?_
  rintro _ z ⟨rfl, ht, hn, he⟩
  have HEND := Lib.hid (dwrite_end (B := B) (V := wrBV (0, 0)) HDM.out HFM.out HGM.out rfl rfl ht hn he)
  clear ht hn he
  go_wp2
  go_ret2
  exact HEND.out
set_option maxRecDepth 100000 in
set_option maxHeartbeats 8000000 in
theorem dwrite_low (rb : Nat) (B : Bd) (hB : B.May) (m x y a b c d : Value) (at_ v t : Int) (hv : 0 ≤ v ∧ v ≤ 255) (ht : 0 ≤ t ∧ t ≤ 255) (h0 : 0 ≤ at_) (h1 : at_ < 32768) (hs : sinkB at_ t = false) (w : World) (h : Dbus rb B m x y a b c d w) :
    Calls Tryz.prog 12 #[.pointer (some ⟨rb, 0, none⟩), .int .i64 at_, .agg #[.int .u8 v, .int .u8 t]] w (DWrite rb B (wrD B at_ v t) (wrBV (wrB B.S at_ t)) m x y a b c d w) := by
  have d1 : decide (at_ < 0) = false := by simp; omega
  have d2 : decide (65535 < at_) = false := by simp; omega
  have HD0 := Lib.hid h
  have HV := Lib.hid (fun W => sink_c at_ v t W)
  have HPS := Lib.hid (fun T hT W hW1 hW2 => pass_c rb T hT B.n hB.n W hW1 hW2)
  have hlt := h.db.hold.lt
  have d3 : decide (32772 ≤ at_) = false := by simp; omega
  have d5 : decide (32768 ≤ at_) = false := by simp; omega
  have d7 : (at_ == 32777) = false := by simp; omega
  have HR := Lib.hid (show wrB B.S at_ t = (0, 0) from by unfold wrB; rw [if_neg (by omega), if_neg (by rw [hs]; simp), if_neg (by omega)])
  have HS := Lib.hid (show wrD B at_ v t = ⟨(writeP B.L ⟨at_, v, t⟩).2, tickT B.T, B.S, B.W, B.n + 1⟩ from by unfold wrD wrT wrPs wrWh; rw [HR.out, if_neg (by decide), if_neg (by omega), if_neg (by omega), if_neg (by omega)])
  rw [HR.out, HS.out]
  rw [hs] at HV
  have HA := Lib.hid (fun W hW => writem_c rb B.L m B.S x y a b c d hB.l at_ v t W hW)
  unfold MemEndB at HA
  have HTM := Lib.hid hB.t
  obtain ⟨⟨E, L'⟩, hY⟩ : ∃ Y, writeP B.L ⟨at_, v, t⟩ = Y := ⟨_, rfl⟩
  rw [hY] at HA ⊢
  dsimp only at HA ⊢
  clear h HR HS hs h0 h1 hv ht hY
  go_enter Tryz.func12, Tryz.ntmps12
  go_wp2_with fail
  have HX0 := Lib.hid (show Bx w.heap.size v t (w.alloc (Obj.cells #[Value.int .u8 v, Value.int .u8 t] 49)) from ⟨by go_simp; first | done | rfl, by go_simp; first | done | rfl⟩)
  have HB0 := Lib.hid (show Below w.heap.size w (w.alloc (Obj.cells #[Value.int .u8 v, Value.int .u8 t] 49)) from by go_grown)
  refine (HV.out _).mono ?_
  rintro _ u0 ⟨rfl, hb⟩
  have HX1 := Lib.hid (HX0.out.fr (Fr.ofBelow (F := fun _ => False) hb) (fun f => f))
  have HB1 := Lib.hid (Below.trans HB0.out (hb.mono (by simp)))
  have HD1 := Lib.hid (HD0.out.below HB1.out)
  obtain ⟨y0, y1⟩ := HX1.out
  have hy0 := klt y0
  have hr1 := HD1.out.db.hold.lt
  clear hb HB0 HX0 HV
  go_wp2_with fail
  refine wp_region_planXD 9 6 5 (fun bo W => Bx w.heap.size v t W ∧  bif bo then (∃ W0 m', Below u0.heap.size u0 W0 ∧ Hq rb (rB B.L m B.S a b c d) (rB L' m' B.S a b c d) W0 W ∧ Db rb L' m' B.S x y a b c d W) else Below u0.heap.size u0 W) (by decide) (by kernel_rfl) (by kernel_rfl) (by kernel_rfl) (by kernel_rfl) ?_ ?_
  · (try dsimp only)
    refine ⟨⟨y0, y1⟩,  ?_⟩
    (try simp only [cond_false]); exact Below.drew (Below.refl _ _)
  (try simp only [List.append_eq, List.cons_append, List.nil_append, List.toList_toArray, List.take_succ_cons, List.take_zero, List.drop_succ_cons, List.drop_zero])
  repeat (first
    | (refine PlanX.val (v := ?_) (by decide) ?_ ?_ ?_; rotate_left; (· rfl); (· (intro bo W hSw; obtain ⟨⟨bx0, bx1⟩,  -⟩ := hSw; go_simp; all_goals (first | (with_reducible rfl) | (constructor <;> (with_reducible rfl))))); (try simp only [Act.put, List.setIfInBounds_toArray, List.set_cons_zero, List.set_cons_succ]))
    | (refine PlanX.turn (v := .int .i64 E) (f := ?_) (args := ?_) (by decide) ?_ ?_ ?_ ?_; rotate_left 2; (· rfl); (· (intro W hSw; obtain ⟨⟨bx0, bx1⟩,  -⟩ := hSw; go_simp; all_goals (first | (with_reducible rfl) | (constructor <;> (with_reducible rfl))))); (· (intro W hSw; exact (HA.out W (HD1.out.db.below hSw.2)).mono fun e w' ⟨h1, m', h2, h3⟩ => ⟨h1, hSw.1.fr h2.fr (fun hk => by have := HD0.out.db.hold.foot_lt hk; omega), W, m', hSw.2, h2, h3⟩)); (try simp only [Act.put, List.setIfInBounds_toArray, List.set_cons_zero, List.set_cons_succ])))
  refine PlanX.done ?_
  intro U T0
  obtain ⟨⟨a0, a1⟩, W0, m', hbW, hq, hdb⟩ := T0
  have HDW := Lib.hid (HD1.out.below hbW)
  have HBW := Lib.hid (Below.trans HB1.out (hbW.mono HB1.out.size))
  have hrW := HDW.out.db.hold.lt
  have hE : ∀ j, (0 < j ∧ j < 9) ∨ 12 < j → U.cell? ⟨rb, j, none⟩ = W0.cell? ⟨rb, j, none⟩ ∧ U.frozen? ⟨rb, j, none⟩ = W0.frozen? ⟨rb, j, none⟩ := fun j hj => hq.at_ j (rB_off _ _ _ _ _ _ _ j hj)
  have HDM := Lib.hid (show Dbus rb ⟨L', B.T, B.S, B.W, B.n⟩ m' x y a b c d U from ⟨hdb, HDW.out.t.at_ (fun j hj => hE j (by unfold kT at hj; omega)), HDW.out.h.at_ (fun j hj => hE j (by unfold kW at hj; omega)), HDW.out.n.at_ (hE 17 (by omega))⟩)
  have HFM := Lib.hid ((Fr.ofBelow (F := foot rb (rB B.L m B.S a b c d)) HBW.out).trans hq.fr (fun k _ hk => hk))
  have HGM := Lib.hid (show ∀ k, foot rb (rB (L') m' (B.S) a b c d) k → foot rb (rB B.L m B.S a b c d) k ∨ w.heap.size ≤ k from fun k hk => (hq.ft k hk).imp id (fun h1 => by have := HBW.out.size; omega))
  clear hbW hq hdb hE a0 a1 y0 y1
  go_wp2_with fail
  refine (HPS.out _ HTM.out _ HDM.out.t HDM.out.n).mono ?_
  rintro _ z ⟨rfl, ht, hn, he⟩
  have HEND := Lib.hid (dwrite_end (B := B) (V := wrBV (0, 0)) HDM.out HFM.out HGM.out rfl rfl ht hn he)
  clear ht hn he
  go_wp2
  go_ret2
  exact HEND.out
set_option maxRecDepth 100000 in
set_option maxHeartbeats 8000000 in
theorem dwrite_high (rb : Nat) (B : Bd) (hB : B.May) (m x y a b c d : Value) (at_ v t : Int) (hv : 0 ≤ v ∧ v ≤ 255) (ht : 0 ≤ t ∧ t ≤ 255) (h0 : 32778 ≤ at_) (h1 : at_ ≤ 65535) (hs : sinkB at_ t = false) (w : World) (h : Dbus rb B m x y a b c d w) :
    Calls Tryz.prog 12 #[.pointer (some ⟨rb, 0, none⟩), .int .i64 at_, .agg #[.int .u8 v, .int .u8 t]] w (DWrite rb B (wrD B at_ v t) (wrBV (wrB B.S at_ t)) m x y a b c d w) := by
  have d1 : decide (at_ < 0) = false := by simp; omega
  have d2 : decide (65535 < at_) = false := by simp; omega
  have HD0 := Lib.hid h
  have HV := Lib.hid (fun W => sink_c at_ v t W)
  have HPS := Lib.hid (fun T hT W hW1 hW2 => pass_c rb T hT B.n hB.n W hW1 hW2)
  have hlt := h.db.hold.lt
  have d3 : decide (32772 ≤ at_) = true := by simp; omega
  have d4 : decide (at_ < 32777) = false := by simp; omega
  have d5 : decide (32768 ≤ at_) = true := by simp; omega
  have d6 : decide (at_ < 32772) = false := by simp; omega
  have d7 : (at_ == 32777) = false := by simp; omega
  have HR := Lib.hid (show wrB B.S at_ t = (0, 0) from by unfold wrB; rw [if_neg (by omega), if_neg (by rw [hs]; simp), if_neg (by omega)])
  have HS := Lib.hid (show wrD B at_ v t = ⟨(writeP B.L ⟨at_, v, t⟩).2, tickT B.T, B.S, B.W, B.n + 1⟩ from by unfold wrD wrT wrPs wrWh; rw [HR.out, if_neg (by decide), if_neg (by omega), if_neg (by omega), if_neg (by omega)])
  rw [HR.out, HS.out]
  rw [hs] at HV
  have HA := Lib.hid (fun W hW => writem_c rb B.L m B.S x y a b c d hB.l at_ v t W hW)
  unfold MemEndB at HA
  have HTM := Lib.hid hB.t
  obtain ⟨⟨E, L'⟩, hY⟩ : ∃ Y, writeP B.L ⟨at_, v, t⟩ = Y := ⟨_, rfl⟩
  rw [hY] at HA ⊢
  dsimp only at HA ⊢
  clear h HR HS hs h0 h1 hv ht hY
  go_enter Tryz.func12, Tryz.ntmps12
  go_wp2_with fail
  have HX0 := Lib.hid (show Bx w.heap.size v t (w.alloc (Obj.cells #[Value.int .u8 v, Value.int .u8 t] 49)) from ⟨by go_simp; first | done | rfl, by go_simp; first | done | rfl⟩)
  have HB0 := Lib.hid (show Below w.heap.size w (w.alloc (Obj.cells #[Value.int .u8 v, Value.int .u8 t] 49)) from by go_grown)
  refine (HV.out _).mono ?_
  rintro _ u0 ⟨rfl, hb⟩
  have HX1 := Lib.hid (HX0.out.fr (Fr.ofBelow (F := fun _ => False) hb) (fun f => f))
  have HB1 := Lib.hid (Below.trans HB0.out (hb.mono (by simp)))
  have HD1 := Lib.hid (HD0.out.below HB1.out)
  obtain ⟨y0, y1⟩ := HX1.out
  have hy0 := klt y0
  have hr1 := HD1.out.db.hold.lt
  clear hb HB0 HX0 HV
  go_wp2_with fail
  refine wp_region_planXD 9 6 5 (fun bo W => Bx w.heap.size v t W ∧  bif bo then (∃ W0 m', Below u0.heap.size u0 W0 ∧ Hq rb (rB B.L m B.S a b c d) (rB L' m' B.S a b c d) W0 W ∧ Db rb L' m' B.S x y a b c d W) else Below u0.heap.size u0 W) (by decide) (by kernel_rfl) (by kernel_rfl) (by kernel_rfl) (by kernel_rfl) ?_ ?_
  · (try dsimp only)
    refine ⟨⟨y0, y1⟩,  ?_⟩
    (try simp only [cond_false]); exact Below.drew (Below.refl _ _)
  (try simp only [List.append_eq, List.cons_append, List.nil_append, List.toList_toArray, List.take_succ_cons, List.take_zero, List.drop_succ_cons, List.drop_zero])
  repeat (first
    | (refine PlanX.val (v := ?_) (by decide) ?_ ?_ ?_; rotate_left; (· rfl); (· (intro bo W hSw; obtain ⟨⟨bx0, bx1⟩,  -⟩ := hSw; go_simp; all_goals (first | (with_reducible rfl) | (constructor <;> (with_reducible rfl))))); (try simp only [Act.put, List.setIfInBounds_toArray, List.set_cons_zero, List.set_cons_succ]))
    | (refine PlanX.turn (v := .int .i64 E) (f := ?_) (args := ?_) (by decide) ?_ ?_ ?_ ?_; rotate_left 2; (· rfl); (· (intro W hSw; obtain ⟨⟨bx0, bx1⟩,  -⟩ := hSw; go_simp; all_goals (first | (with_reducible rfl) | (constructor <;> (with_reducible rfl))))); (· (intro W hSw; exact (HA.out W (HD1.out.db.below hSw.2)).mono fun e w' ⟨h1, m', h2, h3⟩ => ⟨h1, hSw.1.fr h2.fr (fun hk => by have := HD0.out.db.hold.foot_lt hk; omega), W, m', hSw.2, h2, h3⟩)); (try simp only [Act.put, List.setIfInBounds_toArray, List.set_cons_zero, List.set_cons_succ])))
  refine PlanX.done ?_
  intro U T0
  obtain ⟨⟨a0, a1⟩, W0, m', hbW, hq, hdb⟩ := T0
  have HDW := Lib.hid (HD1.out.below hbW)
  have HBW := Lib.hid (Below.trans HB1.out (hbW.mono HB1.out.size))
  have hrW := HDW.out.db.hold.lt
  have hE : ∀ j, (0 < j ∧ j < 9) ∨ 12 < j → U.cell? ⟨rb, j, none⟩ = W0.cell? ⟨rb, j, none⟩ ∧ U.frozen? ⟨rb, j, none⟩ = W0.frozen? ⟨rb, j, none⟩ := fun j hj => hq.at_ j (rB_off _ _ _ _ _ _ _ j hj)
  have HDM := Lib.hid (show Dbus rb ⟨L', B.T, B.S, B.W, B.n⟩ m' x y a b c d U from ⟨hdb, HDW.out.t.at_ (fun j hj => hE j (by unfold kT at hj; omega)), HDW.out.h.at_ (fun j hj => hE j (by unfold kW at hj; omega)), HDW.out.n.at_ (hE 17 (by omega))⟩)
  have HFM := Lib.hid ((Fr.ofBelow (F := foot rb (rB B.L m B.S a b c d)) HBW.out).trans hq.fr (fun k _ hk => hk))
  have HGM := Lib.hid (show ∀ k, foot rb (rB (L') m' (B.S) a b c d) k → foot rb (rB B.L m B.S a b c d) k ∨ w.heap.size ≤ k from fun k hk => (hq.ft k hk).imp id (fun h1 => by have := HBW.out.size; omega))
  clear hbW hq hdb hE a0 a1 y0 y1
  go_wp2_with fail
  refine (HPS.out _ HTM.out _ HDM.out.t HDM.out.n).mono ?_
  rintro _ z ⟨rfl, ht, hn, he⟩
  have HEND := Lib.hid (dwrite_end (B := B) (V := wrBV (0, 0)) HDM.out HFM.out HGM.out rfl rfl ht hn he)
  clear ht hn he
  go_wp2
  go_ret2
  exact HEND.out
set_option maxRecDepth 100000 in
set_option maxHeartbeats 8000000 in
theorem dwrite_full (rb : Nat) (B : Bd) (hB : B.May) (m x y a b c d : Value) (at_ v t : Int) (hv : 0 ≤ v ∧ v ≤ 255) (ht : 0 ≤ t ∧ t ≤ 255) (h0 : 32772 ≤ at_) (h1 : at_ < 32777) (hs : sinkB at_ t = false) (hE : (writeE B.S (at_ - 32772) t).2 ≠ 0) (w : World) (h : Dbus rb B m x y a b c d w) :
    Calls Tryz.prog 12 #[.pointer (some ⟨rb, 0, none⟩), .int .i64 at_, .agg #[.int .u8 v, .int .u8 t]] w (DWrite rb B (wrD B at_ v t) (wrBV (wrB B.S at_ t)) m x y a b c d w) := by
  have d1 : decide (at_ < 0) = false := by simp; omega
  have d2 : decide (65535 < at_) = false := by simp; omega
  have HD0 := Lib.hid h
  have HV := Lib.hid (fun W => sink_c at_ v t W)
  have HPS := Lib.hid (fun T hT W hW1 hW2 => pass_c rb T hT B.n hB.n W hW1 hW2)
  have hlt := h.db.hold.lt
  have d3 : decide (32772 ≤ at_) = true := by simp; omega
  have d4 : decide (at_ < 32777) = true := by simp; omega
  have hw : IntKind.i64.wrap (at_ - 32772) = at_ - 32772 := IntWalk.i64_in _ (by omega)
  have HR := Lib.hid (show wrB B.S at_ t = writeE B.S (at_ - 32772) t from by unfold wrB; rw [if_neg (by omega), if_neg (by rw [hs]; simp), if_pos ⟨h0, h1⟩])
  have HS := Lib.hid (show wrD B at_ v t = B from by unfold wrD; rw [HR.out, if_pos hE])
  rw [HR.out, HS.out]
  rw [hs] at HV
  have HA := Lib.hid (fun W hW => writeb_c rb B.L m B.S x y a b c d (at_ - 32772) v t B.n ht hB.s W hW)
  unfold WriteEndB at HA
  have HTM := Lib.hid hB.t
  have HIN := Lib.hid (wrPo_inputs B.S (at_ - 32772) v t B.n)
  rw [wrPo_no hE] at HA
  obtain ⟨⟨RU, RE⟩, hY⟩ : ∃ Y, writeE B.S (at_ - 32772) t = Y := ⟨_, rfl⟩
  rw [hY] at HA hE ⊢
  dsimp only at HA hE
  have hne : (RE != 0) = true := by simpa using hE
  clear h HR HS hs h0 h1 hv ht hY hE
  go_enter Tryz.func12, Tryz.ntmps12
  go_wp2_with fail
  have HX0 := Lib.hid (show Bx w.heap.size v t (w.alloc (Obj.cells #[Value.int .u8 v, Value.int .u8 t] 49)) from ⟨by go_simp; first | done | rfl, by go_simp; first | done | rfl⟩)
  have HB0 := Lib.hid (show Below w.heap.size w (w.alloc (Obj.cells #[Value.int .u8 v, Value.int .u8 t] 49)) from by go_grown)
  refine (HV.out _).mono ?_
  rintro _ u0 ⟨rfl, hb⟩
  have HX1 := Lib.hid (HX0.out.fr (Fr.ofBelow (F := fun _ => False) hb) (fun f => f))
  have HB1 := Lib.hid (Below.trans HB0.out (hb.mono (by simp)))
  have HD1 := Lib.hid (HD0.out.below HB1.out)
  obtain ⟨y0, y1⟩ := HX1.out
  have hy0 := klt y0
  have hr1 := HD1.out.db.hold.lt
  clear hb HB0 HX0 HV
  have hn17 := HD1.out.n.c
  go_wp2_with fail
  refine wp_region_planXD 9 16 10 (fun bo W => Bx w.heap.size v t W ∧ W.cell? ⟨rb, 17, none⟩ = some (.int .i64 B.n) ∧ bif bo then (∃ W0 a' b' c' d', Below u0.heap.size u0 W0 ∧ Hq rb (rB B.L m B.S a b c d) (rB B.L m B.S a' b' c' d') W0 W ∧ Db rb B.L m B.S x y a' b' c' d' W) else Below u0.heap.size u0 W) (by decide) (by kernel_rfl) (by kernel_rfl) (by kernel_rfl) (by kernel_rfl) ?_ ?_
  · (try dsimp only)
    refine ⟨⟨y0, y1⟩, hn17, ?_⟩
    (try simp only [cond_false]); exact Below.drew (Below.refl _ _)
  (try simp only [List.append_eq, List.cons_append, List.nil_append, List.toList_toArray, List.take_succ_cons, List.take_zero, List.drop_succ_cons, List.drop_zero])
  repeat (first
    | (refine PlanX.val (v := ?_) (by decide) ?_ ?_ ?_; rotate_left; (· rfl); (· (intro bo W hSw; obtain ⟨⟨bx0, bx1⟩, bn17, -⟩ := hSw; go_simp; all_goals (first | (with_reducible rfl) | (constructor <;> (with_reducible rfl))))); (try simp only [Act.put, List.setIfInBounds_toArray, List.set_cons_zero, List.set_cons_succ]))
    | (refine PlanX.turn (v := .tuple #[.int .i64 RU, .int .i64 RE]) (f := ?_) (args := ?_) (by decide) ?_ ?_ ?_ ?_; rotate_left 2; (· rfl); (· (intro W hSw; obtain ⟨⟨bx0, bx1⟩, bn17, -⟩ := hSw; go_simp; all_goals (first | (with_reducible rfl) | (constructor <;> (with_reducible rfl))))); (· (intro W hSw; exact (HA.out W (HD1.out.db.below hSw.2.2)).mono fun e w' ⟨h1, a', b', c', d', h2, h3⟩ => ⟨h1, hSw.1.fr h2.fr (fun hk => by have := HD0.out.db.hold.foot_lt hk; omega), ((h2.at_ 17 (rB_off _ _ _ _ _ _ _ 17 (by omega))).1).trans hSw.2.1, W, a', b', c', d', hSw.2.2, h2, h3⟩)); (try simp only [Act.put, List.setIfInBounds_toArray, List.set_cons_zero, List.set_cons_succ])))
  refine PlanX.done ?_
  intro U T0
  obtain ⟨⟨a0, a1⟩, -, W0, a', b', c', d', hbW, hq, hdb⟩ := T0
  have HDW := Lib.hid (HD1.out.below hbW)
  have HBW := Lib.hid (Below.trans HB1.out (hbW.mono HB1.out.size))
  have hE : ∀ j, (0 < j ∧ j < 9) ∨ 12 < j → U.cell? ⟨rb, j, none⟩ = W0.cell? ⟨rb, j, none⟩ ∧ U.frozen? ⟨rb, j, none⟩ = W0.frozen? ⟨rb, j, none⟩ := fun j hj => hq.at_ j (rB_off _ _ _ _ _ _ _ j hj)
  have HDM := Lib.hid (show Dbus rb B m x y a' b' c' d' U from ⟨hdb, HDW.out.t.at_ (fun j hj => hE j (by unfold kT at hj; omega)), HDW.out.h.at_ (fun j hj => hE j (by unfold kW at hj; omega)), HDW.out.n.at_ (hE 17 (by omega))⟩)
  have HFM := Lib.hid ((Fr.ofBelow (F := foot rb (rB B.L m B.S a b c d)) HBW.out).trans hq.fr (fun k _ hk => hk))
  have HGM := Lib.hid (show ∀ k, foot rb (rB B.L m B.S a' b' c' d') k → foot rb (rB B.L m B.S a b c d) k ∨ w.heap.size ≤ k from fun k hk => (hq.ft k hk).imp id (fun h1 => by have := HBW.out.size; omega))
  clear hbW hq hdb hE a0 a1 y0 y1 hn17
  go_wp2
  go_ret2
  exact ⟨rfl, m, a', b', c', d', HDM.out, HFM.out, HGM.out, rfl, rfl⟩
set_option maxRecDepth 100000 in
set_option maxHeartbeats 8000000 in
theorem dwrite_ports (rb : Nat) (B : Bd) (hB : B.May) (m x y a b c d : Value) (at_ v t : Int) (hv : 0 ≤ v ∧ v ≤ 255) (ht : 0 ≤ t ∧ t ≤ 255) (h0 : 32772 ≤ at_) (h1 : at_ < 32777) (hs : sinkB at_ t = false) (hE : (writeE B.S (at_ - 32772) t).2 = 0) (hE1 : (writeE B.S (at_ - 32772) t).1 = 0) (w : World) (h : Dbus rb B m x y a b c d w) :
    Calls Tryz.prog 12 #[.pointer (some ⟨rb, 0, none⟩), .int .i64 at_, .agg #[.int .u8 v, .int .u8 t]] w (DWrite rb B (wrD B at_ v t) (wrBV (wrB B.S at_ t)) m x y a b c d w) := by
  have d1 : decide (at_ < 0) = false := by simp; omega
  have d2 : decide (65535 < at_) = false := by simp; omega
  have HD0 := Lib.hid h
  have HV := Lib.hid (fun W => sink_c at_ v t W)
  have HPS := Lib.hid (fun T hT W hW1 hW2 => pass_c rb T hT B.n hB.n W hW1 hW2)
  have hlt := h.db.hold.lt
  have d3 : decide (32772 ≤ at_) = true := by simp; omega
  have d4 : decide (at_ < 32777) = true := by simp; omega
  have hw : IntKind.i64.wrap (at_ - 32772) = at_ - 32772 := IntWalk.i64_in _ (by omega)
  have HR := Lib.hid (show wrB B.S at_ t = (0, 0) from by unfold wrB; rw [if_neg (by omega), if_neg (by rw [hs]; simp), if_pos ⟨h0, h1⟩]; exact Prod.ext hE1 hE)
  have HS := Lib.hid (show wrD B at_ v t = ⟨B.L, tickT B.T, wrPo B.S (at_ - 32772) v t B.n, B.W, B.n + 1⟩ from by unfold wrD wrT wrPs wrWh; rw [HR.out, if_neg (by decide), if_neg (by omega), if_pos ⟨h0, h1⟩, if_neg (by omega), writeP_dev _ _ _ _ (by unfold devB; simp; omega)])
  rw [HR.out, HS.out]
  rw [hs] at HV
  have HA := Lib.hid (fun W hW => writeb_c rb B.L m B.S x y a b c d (at_ - 32772) v t B.n ht hB.s W hW)
  unfold WriteEndB at HA
  have HTM := Lib.hid hB.t
  have HIN := Lib.hid (wrPo_inputs B.S (at_ - 32772) v t B.n)
  obtain ⟨S', hS'⟩ : ∃ S', wrPo B.S (at_ - 32772) v t B.n = S' := ⟨_, rfl⟩
  rw [hE1, hE] at HA
  rw [hS'] at HA HIN ⊢
  clear h HR HS hs h0 h1 hv ht hE hE1 hS'
  go_enter Tryz.func12, Tryz.ntmps12
  go_wp2_with fail
  have HX0 := Lib.hid (show Bx w.heap.size v t (w.alloc (Obj.cells #[Value.int .u8 v, Value.int .u8 t] 49)) from ⟨by go_simp; first | done | rfl, by go_simp; first | done | rfl⟩)
  have HB0 := Lib.hid (show Below w.heap.size w (w.alloc (Obj.cells #[Value.int .u8 v, Value.int .u8 t] 49)) from by go_grown)
  refine (HV.out _).mono ?_
  rintro _ u0 ⟨rfl, hb⟩
  have HX1 := Lib.hid (HX0.out.fr (Fr.ofBelow (F := fun _ => False) hb) (fun f => f))
  have HB1 := Lib.hid (Below.trans HB0.out (hb.mono (by simp)))
  have HD1 := Lib.hid (HD0.out.below HB1.out)
  obtain ⟨y0, y1⟩ := HX1.out
  have hy0 := klt y0
  have hr1 := HD1.out.db.hold.lt
  clear hb HB0 HX0 HV
  have hn17 := HD1.out.n.c
  go_wp2_with fail
  refine wp_region_planXD 9 16 10 (fun bo W => Bx w.heap.size v t W ∧ W.cell? ⟨rb, 17, none⟩ = some (.int .i64 B.n) ∧ bif bo then (∃ W0 a' b' c' d', Below u0.heap.size u0 W0 ∧ Hq rb (rB B.L m B.S a b c d) (rB B.L m S' a' b' c' d') W0 W ∧ Db rb B.L m S' x y a' b' c' d' W) else Below u0.heap.size u0 W) (by decide) (by kernel_rfl) (by kernel_rfl) (by kernel_rfl) (by kernel_rfl) ?_ ?_
  · (try dsimp only)
    refine ⟨⟨y0, y1⟩, hn17, ?_⟩
    (try simp only [cond_false]); exact Below.drew (Below.refl _ _)
  (try simp only [List.append_eq, List.cons_append, List.nil_append, List.toList_toArray, List.take_succ_cons, List.take_zero, List.drop_succ_cons, List.drop_zero])
  repeat (first
    | (refine PlanX.val (v := ?_) (by decide) ?_ ?_ ?_; rotate_left; (· rfl); (· (intro bo W hSw; obtain ⟨⟨bx0, bx1⟩, bn17, -⟩ := hSw; go_simp; all_goals (first | (with_reducible rfl) | (constructor <;> (with_reducible rfl))))); (try simp only [Act.put, List.setIfInBounds_toArray, List.set_cons_zero, List.set_cons_succ]))
    | (refine PlanX.turn (v := .tuple #[.int .i64 0, .int .i64 0]) (f := ?_) (args := ?_) (by decide) ?_ ?_ ?_ ?_; rotate_left 2; (· rfl); (· (intro W hSw; obtain ⟨⟨bx0, bx1⟩, bn17, -⟩ := hSw; go_simp; all_goals (first | (with_reducible rfl) | (constructor <;> (with_reducible rfl))))); (· (intro W hSw; exact (HA.out W (HD1.out.db.below hSw.2.2)).mono fun e w' ⟨h1, a', b', c', d', h2, h3⟩ => ⟨h1, hSw.1.fr h2.fr (fun hk => by have := HD0.out.db.hold.foot_lt hk; omega), ((h2.at_ 17 (rB_off _ _ _ _ _ _ _ 17 (by omega))).1).trans hSw.2.1, W, a', b', c', d', hSw.2.2, h2, h3⟩)); (try simp only [Act.put, List.setIfInBounds_toArray, List.set_cons_zero, List.set_cons_succ])))
  refine PlanX.done ?_
  intro U T0
  clear hn17
  obtain ⟨⟨a0, a1⟩, -, W0, a', b', c', d', hbW, hq, hdb⟩ := T0
  have HDW := Lib.hid (HD1.out.below hbW)
  have HBW := Lib.hid (Below.trans HB1.out (hbW.mono HB1.out.size))
  have hrW := HDW.out.db.hold.lt
  have hE : ∀ j, (0 < j ∧ j < 9) ∨ 12 < j → U.cell? ⟨rb, j, none⟩ = W0.cell? ⟨rb, j, none⟩ ∧ U.frozen? ⟨rb, j, none⟩ = W0.frozen? ⟨rb, j, none⟩ := fun j hj => hq.at_ j (rB_off _ _ _ _ _ _ _ j hj)
  have HDM := Lib.hid (show Dbus rb ⟨B.L, B.T, S', B.W, B.n⟩ m x y a' b' c' d' U from ⟨hdb, HDW.out.t.at_ (fun j hj => hE j (by unfold kT at hj; omega)), HDW.out.h.at_ (fun j hj => hE j (by unfold kW at hj; omega)), HDW.out.n.at_ (hE 17 (by omega))⟩)
  have HFM := Lib.hid ((Fr.ofBelow (F := foot rb (rB B.L m B.S a b c d)) HBW.out).trans hq.fr (fun k _ hk => hk))
  have HGM := Lib.hid (show ∀ k, foot rb (rB (B.L) m (S') a' b' c' d') k → foot rb (rB B.L m B.S a b c d) k ∨ w.heap.size ≤ k from fun k hk => (hq.ft k hk).imp id (fun h1 => by have := HBW.out.size; omega))
  clear hbW hq hdb hE a0 a1 y0 y1
  go_wp2_with fail
  refine (HPS.out _ HTM.out _ HDM.out.t HDM.out.n).mono ?_
  rintro _ z ⟨rfl, ht, hn, he⟩
  have HEND := Lib.hid (dwrite_end (B := B) (V := wrBV (0, 0)) HDM.out HFM.out HGM.out HIN.out.1 HIN.out.2 ht hn he)
  clear ht hn he
  go_wp2
  go_ret2
  exact HEND.out
theorem writeE_zero {S : Po} {reg t : Int} (h : (writeE S reg t).2 = 0) : (writeE S reg t).1 = 0 := by
  unfold writeE at *
  split at h
  · simp at h
  · rename_i h1
    rw [if_neg h1]
    split at h
    · simp at h
    · rename_i h2
      rw [if_neg h2]
      split at h
      · simp at h
      · rename_i h3
        rw [if_neg h3]
theorem dwrite_c (rb : Nat) (B : Bd) (hB : B.May) (m x y a b c d : Value) (at_ v t : Int) (hv : 0 ≤ v ∧ v ≤ 255) (ht : 0 ≤ t ∧ t ≤ 255) (w : World) (h : Dbus rb B m x y a b c d w) :
    Calls Tryz.prog 12 #[.pointer (some ⟨rb, 0, none⟩), .int .i64 at_, .agg #[.int .u8 v, .int .u8 t]] w (DWrite rb B (wrD B at_ v t) (wrBV (wrB B.S at_ t)) m x y a b c d w) := by
  by_cases h0 : at_ < 0 ∨ 65535 < at_
  · exact dwrite_bad rb B m x y a b c d at_ v t h0 w h
  · by_cases hs : sinkB at_ t = true
    · exact dwrite_sink rb B hB m x y a b c d at_ v t hv ht (by omega) (by omega) hs w h
    · have hs' : sinkB at_ t = false := by simpa using hs
      by_cases h1 : at_ < 32768
      · exact dwrite_low rb B hB m x y a b c d at_ v t hv ht (by omega) h1 hs' w h
      · by_cases h2 : at_ < 32772
        · exact dwrite_timer rb B hB m x y a b c d at_ v t hv ht (by omega) h2 hs' w h
        · by_cases h3 : at_ < 32777
          · by_cases h4 : (writeE B.S (at_ - 32772) t).2 = 0
            · exact dwrite_ports rb B hB m x y a b c d at_ v t hv ht (by omega) h3 hs' h4 (writeE_zero h4) w h
            · exact dwrite_full rb B hB m x y a b c d at_ v t hv ht (by omega) h3 hs' h4 w h
          · by_cases h5 : at_ = 32777
            · exact dwrite_wheel rb B hB m x y a b c d at_ v t hv ht h5 hs' w h
            · exact dwrite_high rb B hB m x y a b c d at_ v t hv ht (by omega) (by omega) hs' w h
end Go.Proofs.YtcnejgilmciljaaGreatDoor
