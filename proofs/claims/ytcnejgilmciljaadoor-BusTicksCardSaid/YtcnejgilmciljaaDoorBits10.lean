/-
  The program's Low.
  What the laws lean on of the program's bus, besides: clones, Low, and what a nil one has.
  Layer 13's laws: what a setup's bus is; a bus in a law's loop; a call.
  The program's timer: IRQ, Tick, mayBe, has, control, Write.
  Bits of numbers: a word's low byte, its high byte; a byte's bits.
-/
import Derived.Test.YtcnejgilmciljaaDoorEqual11
import Derived.Test.YtcnejgilmciljaaDoorSamep8
import Derived.Test.YtcnejgilmciljaaDoorOutp11
import Derived.Test.YtcnejgilmciljaaDoorRow10
import Derived.WalkKit
import Derived.IntWalk
import Derived.Laws.BitsAllLaws
import Derived.Test.YtcnejgilmciljaaDoorDocw10
set_option linter.unusedSimpArgs false
set_option linter.unusedVariables false
namespace Go.Proofs.YtcnejgilmciljaaDoor
open Go.RowKit Go.PlainAid

/-- Ports that are the same but for what is secret. -/
structure LowR (S T : Po) : Prop where
  pub : S.pub = T.pub
  sec : S.sec.length = T.sec.length
  out : S.out = T.out
  kept : AlikeL S.kept T.kept
  log : S.log = T.log
theorem lowR_refl (S : Po) : LowR S S := ⟨rfl, rfl, rfl, alikeL_refl _, rfl⟩
set_option maxRecDepth 100000 in
theorem low_nn (w : World) : Calls Tryd.prog 33 #[.pointer none, .pointer none] w fun e w' => e = .returned (.bool true) ∧ Below w.heap.size w w' := by
  go_enter Tryd.func33, Tryd.ntmps33
  go_wp2
  go_ret
  exact ⟨rfl, by go_grown⟩
set_option maxRecDepth 100000 in
theorem low_np (b : Addr) (w : World) : Calls Tryd.prog 33 #[.pointer none, .pointer (some b)] w fun e w' => e = .returned (.bool false) ∧ Below w.heap.size w w' := by
  go_enter Tryd.func33, Tryd.ntmps33
  go_wp2
  go_ret
  exact ⟨rfl, by go_grown⟩
set_option maxRecDepth 100000 in
theorem low_pn (b : Addr) (w : World) : Calls Tryd.prog 33 #[.pointer (some b), .pointer none] w fun e w' => e = .returned (.bool false) ∧ Below w.heap.size w w' := by
  go_enter Tryd.func33, Tryd.ntmps33
  go_wp2
  go_ret
  exact ⟨rfl, by go_grown⟩
set_option maxRecDepth 100000 in
set_option maxHeartbeats 4000000 in
theorem lowp_c (pb qb : Nat) (S T : Po) (hS : Fit S) (hL : LowR S T) (F G F2 G2 : Nat → Prop) (w : World) (h : PO pb S F G w) (h' : PO qb T F2 G2 w) :
    Calls Tryd.prog 33 #[.pointer (some ⟨pb, 0, none⟩), .pointer (some ⟨qb, 0, none⟩)] w fun e w' => e = .returned (.bool true) ∧ Below w.heap.size w w' := by
  obtain ⟨x, y, a, b, c, h, -, -⟩ := h
  obtain ⟨x', y', a', b', c', h', -, -⟩ := h'
  have hltp := h.hold.lt
  have hltq := h'.hold.lt
  obtain ⟨⟨k2, o2⟩, ⟨k3, o3⟩, k4, o4⟩ := h.at0
  obtain ⟨⟨l2, r2⟩, ⟨l3, r3⟩, l4, r4⟩ := h'.at0
  have k0 := h.p.c
  have k1 := h.s.c
  have l0 := h'.p.c
  have l1 := h'.s.c
  have hlog := hS.log
  have hb1 := hS.pub
  have hb2 := hS.sec
  have hb3 := hS.out
  have hb4 := hS.kept
  have hb5 := hS.told
  obtain ⟨e1, e2, e3, e4, e5⟩ := hL
  have HE1 := Lib.hid (fun W (hW : Below w.heap.size w W) => equal_b S.pub (by omega) x x' W (h.p.h.below hW) (by rw [e1]; exact h'.p.h.below hW))
  have HE2 := Lib.hid (fun W (hW : Below w.heap.size w W) => equal_b S.out (by omega) a a' W ((HoldsW.own bE_len o2).below hW) (by rw [e3]; exact (HoldsW.own bE_len r2).below hW))
  have HE3 := Lib.hid (fun W (hW : Below w.heap.size w W) => equalf_k S.kept T.kept e4 (by omega) b b' W ((HoldsW.own kE_len o3).below hW) ((HoldsW.own kE_len r3).below hW))
  have HE4 := Lib.hid (fun W (hW : Below w.heap.size w W) => equal_e S.log (by omega) c c' W ((HoldsW.own eE_len o4).below hW) (by rw [e5]; exact (HoldsW.own eE_len r4).below hW))
  obtain ⟨px, cx, rfl⟩ := h.p.h.form
  obtain ⟨py, cy, rfl⟩ := h.s.h.form
  obtain ⟨px', cx', rfl⟩ := h'.p.h.form
  obtain ⟨py', cy', rfl⟩ := h'.s.h.form
  obtain ⟨pa, ca, rfl⟩ := own_form o2
  obtain ⟨pb', cb, rfl⟩ := own_form o3
  obtain ⟨pc, cc, rfl⟩ := own_form o4
  obtain ⟨pa', ca', rfl⟩ := own_form r2
  obtain ⟨pb'', cb', rfl⟩ := own_form r3
  obtain ⟨pc', cc', rfl⟩ := own_form r4
  rw [secT_len] at k1 l1
  rw [← e2] at l1
  generalize S.sec.length = n1 at *
  generalize S.pub.length = n0 at *
  generalize T.pub.length = m0 at *
  generalize S.out.length = n2 at *
  generalize T.out.length = m2 at *
  generalize S.kept.length = n3 at *
  generalize T.kept.length = m3 at *
  generalize S.log.length = n4 at *
  generalize T.log.length = m4 at *
  clear h h' o2 o3 o4 r2 r3 r4 hS hlog hb1 hb2 hb3 hb4 hb5 e1 e2 e3 e4 e5
  have hp_0 := k0
  have hp_1 := k1
  have hp_2 := k2
  have hp_3 := k3
  have hp_4 := k4
  have hq_0 := l0
  have hq_1 := l1
  have hq_2 := l2
  have hq_3 := l3
  have hq_4 := l4
  have hB : Below w.heap.size w w := Below.refl _ _
  clear k0 k1 k2 k3 k4 l0 l1 l2 l3 l4
  go_enter Tryd.func33, Tryd.ntmps33
  go_wp2_with fail
  refine wp_region_plan (fun w' => w'.cell? ⟨pb, 0, none⟩ = some (.slice px n0 cx) ∧ w'.cell? ⟨pb, 1, none⟩ = some (.slice py n1 cy) ∧ w'.cell? ⟨pb, 2, none⟩ = some (.slice pa n2 ca) ∧ w'.cell? ⟨pb, 3, none⟩ = some (.slice pb' n3 cb) ∧ w'.cell? ⟨pb, 4, none⟩ = some (.slice pc n4 cc) ∧ w'.cell? ⟨qb, 0, none⟩ = some (.slice px' m0 cx') ∧ w'.cell? ⟨qb, 1, none⟩ = some (.slice py' n1 cy') ∧ w'.cell? ⟨qb, 2, none⟩ = some (.slice pa' m2 ca') ∧ w'.cell? ⟨qb, 3, none⟩ = some (.slice pb'' m3 cb') ∧ w'.cell? ⟨qb, 4, none⟩ = some (.slice pc' m4 cc') ∧ Below w.heap.size w w') (by kernel_rfl) (by kernel_rfl) (by kernel_rfl) ?_ ?_
  · (try dsimp only)
    refine ⟨?_, ?_, ?_, ?_, ?_, ?_, ?_, ?_, ?_, ?_, ?_⟩ <;> first | (go_simp; done) | (simp [*]; done) | go_grown
  repeat (first
    | (refine Plan.val (v := ?_) ?_ ?_ ?_; rotate_left; (· rfl); (· (intro W hSw; (try dsimp only at hSw); go_simp; all_goals (first | (with_reducible rfl) | (constructor <;> (with_reducible rfl)) | (rw [if_neg (by omega)]; done) | (rw [if_neg (by omega)]; with_reducible rfl)))); (try simp only [Act.put, List.setIfInBounds_toArray, List.set_cons_zero, List.set_cons_succ]))
    | (refine Plan.no ?_ ?_; (· rfl); (try simp only [Act.put, List.setIfInBounds_toArray, List.set_cons_zero, List.set_cons_succ]))
    | (refine Plan.call (v := ?_) (f := ?_) (args := ?_) ?_ ?_ ?_ ?_; rotate_left 3; (· rfl); (· (intro W hSw; (try dsimp only at hSw); go_simp; all_goals (first | (with_reducible rfl) | (constructor <;> (with_reducible rfl)) | (rw [if_neg (by omega)]; done) | (rw [if_neg (by omega)]; with_reducible rfl)))); (· (intro W hSw; (try dsimp only at hSw); first | (go_at_call 49; ((with_reducible refine (HE1.out _ hSw.2.2.2.2.2.2.2.2.2.2).mono ?_); rintro _ wz ⟨rfl, hb⟩; (refine ⟨?_, ?_⟩; (· with_reducible rfl); exact ⟨kc hb hSw.1, kc hb hSw.2.1, kc hb hSw.2.2.1, kc hb hSw.2.2.2.1, kc hb hSw.2.2.2.2.1, kc hb hSw.2.2.2.2.2.1, kc hb hSw.2.2.2.2.2.2.1, kc hb hSw.2.2.2.2.2.2.2.1, kc hb hSw.2.2.2.2.2.2.2.2.1, kc hb hSw.2.2.2.2.2.2.2.2.2.1, kb hSw.2.2.2.2.2.2.2.2.2.2 hb⟩))) | (go_at_call 49; ((with_reducible refine (HE2.out _ hSw.2.2.2.2.2.2.2.2.2.2).mono ?_); rintro _ wz ⟨rfl, hb⟩; (refine ⟨?_, ?_⟩; (· with_reducible rfl); exact ⟨kc hb hSw.1, kc hb hSw.2.1, kc hb hSw.2.2.1, kc hb hSw.2.2.2.1, kc hb hSw.2.2.2.2.1, kc hb hSw.2.2.2.2.2.1, kc hb hSw.2.2.2.2.2.2.1, kc hb hSw.2.2.2.2.2.2.2.1, kc hb hSw.2.2.2.2.2.2.2.2.1, kc hb hSw.2.2.2.2.2.2.2.2.2.1, kb hSw.2.2.2.2.2.2.2.2.2.2 hb⟩))) | (go_at_call 50; ((with_reducible refine (HE3.out _ hSw.2.2.2.2.2.2.2.2.2.2).mono ?_); rintro _ wz ⟨rfl, hb⟩; (refine ⟨?_, ?_⟩; (· with_reducible rfl); exact ⟨kc hb hSw.1, kc hb hSw.2.1, kc hb hSw.2.2.1, kc hb hSw.2.2.2.1, kc hb hSw.2.2.2.2.1, kc hb hSw.2.2.2.2.2.1, kc hb hSw.2.2.2.2.2.2.1, kc hb hSw.2.2.2.2.2.2.2.1, kc hb hSw.2.2.2.2.2.2.2.2.1, kc hb hSw.2.2.2.2.2.2.2.2.2.1, kb hSw.2.2.2.2.2.2.2.2.2.2 hb⟩))) | (go_at_call 52; ((with_reducible refine (HE4.out _ hSw.2.2.2.2.2.2.2.2.2.2).mono ?_); rintro _ wz ⟨rfl, hb⟩; (refine ⟨?_, ?_⟩; (· with_reducible rfl); exact ⟨kc hb hSw.1, kc hb hSw.2.1, kc hb hSw.2.2.1, kc hb hSw.2.2.2.1, kc hb hSw.2.2.2.2.1, kc hb hSw.2.2.2.2.2.1, kc hb hSw.2.2.2.2.2.2.1, kc hb hSw.2.2.2.2.2.2.2.1, kc hb hSw.2.2.2.2.2.2.2.2.1, kc hb hSw.2.2.2.2.2.2.2.2.2.1, kb hSw.2.2.2.2.2.2.2.2.2.2 hb⟩))))); (try simp only [Act.put, List.setIfInBounds_toArray, List.set_cons_zero, List.set_cons_succ])))
  refine Plan.done ?_
  intro wz T
  (try dsimp only at T)
  have hBe := T.2.2.2.2.2.2.2.2.2.2
  go_wp2
  go_ret
  exact ⟨rfl, by go_grown⟩
end Go.Proofs.YtcnejgilmciljaaDoor
set_option linter.unusedSimpArgs false
set_option linter.unusedVariables false
namespace Go.Proofs.YtcnejgilmciljaaDoor
open Go.RowKit Go.PlainAid

/-- The same but for secrets. -/
structure LowQ (B C : Bs) : Prop where
  m : sameM B.M C.M = true
  s : LowR B.S C.S
  t : B.T = C.T
  w : B.W = C.W
  n : B.n = C.n
theorem lowQ_refl (B : Bs) : LowQ B B := ⟨sameM_refl _, lowR_refl _, rfl, rfl, rfl⟩
structure BusL (BO : Nat → Bs → Thing) : Prop where
  k : BusK BO
  clone : ∀ (bb : Nat) (B : Bs) (F G : Nat → Prop) (w : World), Fit B.S → BO bb B F G w → Calls Tryd.prog 17 #[.pointer (some ⟨bb, 0, none⟩)] w (NewT (fun b => BO b B) (fun v => v) w)
  low : ∀ (bb cb : Nat) (B C : Bs) (F G F2 G2 : Nat → Prop) (w : World), LowQ B C → B.May → C.May → BO bb B F G w → BO cb C F2 G2 w →
    Calls Tryd.prog 18 #[.pointer (some ⟨bb, 0, none⟩), .pointer (some ⟨cb, 0, none⟩)] w fun e w' => e = .returned (.bool true) ∧ Below w.heap.size w w'
  lowNN : ∀ w, Calls Tryd.prog 18 #[.pointer none, .pointer none] w fun e w' => e = .returned (.bool true) ∧ Below w.heap.size w w'
  lowNP : ∀ (p : Addr) (w : World), Calls Tryd.prog 18 #[.pointer none, .pointer (some p)] w fun e w' => e = .returned (.bool false) ∧ Below w.heap.size w w'
  readN : ∀ (a : Int) (w : World), Calls Tryd.prog 9 #[.pointer none, .int .i64 a] w fun e w' => e = .returned (rdBV (0, 0, 2)) ∧ Below w.heap.size w w'
  writeN : ∀ (a v t : Int) (w : World), Calls Tryd.prog 10 #[.pointer none, .int .i64 a, .agg #[.int .u8 v, .int .u8 t]] w fun e w' => e = .returned (wrBV (0, 2)) ∧ Below w.heap.size w w'
  irqN : ∀ w, Calls Tryd.prog 11 #[.pointer none] w fun e w' => e = .returned (.bool false) ∧ Below w.heap.size w w'
  cyclesN : ∀ w, Calls Tryd.prog 12 #[.pointer none] w fun e w' => e = .returned (.int .i64 0) ∧ Below w.heap.size w w'
  memoryN : ∀ w, Calls Tryd.prog 13 #[.pointer none] w fun e w' => e = .returned (.pointer none) ∧ Below w.heap.size w w'
  timerN : ∀ w, Calls Tryd.prog 14 #[.pointer none] w fun e w' => e = .returned (tmVal ⟨0, 0, false, false, false, false⟩) ∧ Below w.heap.size w w'
  portsN : ∀ w, Calls Tryd.prog 15 #[.pointer none] w fun e w' => e = .returned (.pointer none) ∧ Below w.heap.size w w'
  wheelN : ∀ w, Calls Tryd.prog 16 #[.pointer none] w fun e w' => e = .returned (.pointer none) ∧ Below w.heap.size w w'
  cloneN : ∀ w, Calls Tryd.prog 17 #[.pointer none] w fun e w' => e = .returned (.pointer none) ∧ Below w.heap.size w w'
end Go.Proofs.YtcnejgilmciljaaDoor
set_option linter.unusedSimpArgs false
set_option linter.unusedVariables false
namespace Go.Proofs.YtcnejgilmciljaaDoor
open Go.RowKit Go.PlainAid

/-- A call, as the laws have it. -/
structure Op13 where
  wr : Bool
  a : Int
  v : Int
  t : Int
def opE (o : Op13) : List Value := [.bool o.wr, .int .i64 o.a, .int .u8 o.v, .int .u8 o.t]
theorem opE_len (o : Op13) : (opE o).length = 4 := rfl
def opG (o : Op13) : Prop := (0 ≤ o.v ∧ o.v ≤ 255) ∧ (0 ≤ o.t ∧ o.t ≤ 255) ∧ i64I o.a
def MadeEnd (BO : Nat → Bs → Thing) (s : Su) (w : World) : Ending → World → Prop := fun e w' => Below w.heap.size w w' ∧
  ((∃ bb F G, e = .returned (.pointer (some ⟨bb, 0, none⟩)) ∧ BO bb (suQ s) F G w' ∧ (∀ k, G k → w.heap.size ≤ k) ∧ s.T.May ∧ s.pub.length ≤ 65536 ∧ s.sec.length ≤ 65536) ∨ (e = .returned (.pointer none) ∧ (fewS s = true → ¬ s.T.May)))
theorem few_len {s : Su} (h : fewS s = true) : s.pub.length ≤ 60 ∧ s.sec.length ≤ 60 ∧ s.cs.length ≤ 6 ∧ ∀ x ∈ s.cs, x.l.length ≤ 60 := by
  unfold fewS at h
  simp only [Bool.and_eq_true, decide_eq_true_eq, List.all_eq_true] at h
  refine ⟨by omega, by omega, by omega, fun x hx => ?_⟩
  have := h.1 x hx
  unfold fewC at this
  simp at this
  omega
theorem made_any {BO : Nat → Bs → Thing} (K : BusK BO) (s : Su) (lv pv sv : Value) (w : World) (h : InS w.heap.size w lv pv sv s) (hL : Laid w) :
    Calls Tryd.prog 21 #[.agg (suA lv pv sv s.T)] w (MadeEnd BO s w) := by
  by_cases hl : s.pub.length ≤ 65536 ∧ s.sec.length ≤ 65536
  · by_cases hT : s.T.May
    · refine (made13_c K s lv pv sv w h hL hl.1 hl.2 hT).mono ?_
      rintro _ u ⟨bb, F, G, rfl, ho, hg, -, hb⟩
      exact ⟨hb, .inl ⟨bb, F, G, rfl, ho, hg, hT, hl.1, hl.2⟩⟩
    · refine (made13_bad K s lv pv sv w h hL hl.1 hl.2 hT).mono ?_
      rintro _ u ⟨rfl, hb⟩
      exact ⟨hb, .inr ⟨rfl, fun _ => hT⟩⟩
  · refine (made13_long s lv pv sv w h hL (by omega)).mono ?_
    rintro _ u ⟨rfl, hb⟩
    exact ⟨hb, .inr ⟨rfl, fun hf => absurd (few_len hf) (by omega)⟩⟩
/-- A bus in a law's loop: apart from what is older than the law. -/
structure BusI (BO : Nat → Bs → Thing) (N : Nat) (w : World) (bb : Nat) (Q : Bs) (F G : Nat → Prop) (u : World) : Prop where
  o : BO bb Q F G u
  b : Below w.heap.size w u
  f : ∀ k, F k → N ≤ k
theorem BusI.below {BO : Nat → Bs → Thing} (K : BusK BO) {N : Nat} {w : World} {bb : Nat} {Q : Bs} {F G : Nat → Prop} {u v : World} (h : BusI BO N w bb Q F G u) (hb : Below u.heap.size u v) : BusI BO N w bb Q F G v :=
  ⟨(K.frm _ _).below h.o hb, Below.trans h.b (hb.mono h.b.size), h.f⟩
theorem BusI.move {BO : Nat → Bs → Thing} {N : Nat} {w : World} {bb : Nat} {Q Q' : Bs} {F G F' G' : Nat → Prop} {u v : World} (h : BusI BO N w bb Q F G u) (hN : w.heap.size ≤ N) (hN2 : N ≤ u.heap.size) (ho : BO bb Q' F' G' v) (hM : Mv F G F' G' u v) : BusI BO N w bb Q' F' G' v :=
  ⟨ho, hM.lowB h.b (fun k hk => by have := h.f k hk; omega) (Nat.le_refl _), hM.low h.f hN2⟩
theorem BusI.laid {BO : Nat → Bs → Thing} {N : Nat} {w : World} {bb : Nat} {Q : Bs} {F G : Nat → Prop} {u : World} (h : BusI BO N w bb Q F G u) (hL : Laid w) : Laid u := hL.keep (h.b.block 0 hL.lt)
theorem BusI.new {BO : Nat → Bs → Thing} (K : BusK BO) {N : Nat} {w : World} {bb : Nat} {Q : Bs} {F G : Nat → Prop} {u : World} (h : BusI BO N w bb Q F G u) {k : Nat} (hk : u.heap.size ≤ k) : ¬ F k := fun hf => by
  have := (K.frm _ _).lt h.o k ((K.frm _ _).sub h.o k hf); omega
theorem rdB_err (f : Int → Int × Int) (T : Tm) (S : Po) (W : Wh) (a : Int) : (rdB f T S W a).2.2 = if a < 0 ∨ 65535 < a then 10 else 0 := by
  unfold rdB
  by_cases h : a < 0 ∨ 65535 < a
  · rw [if_pos h, if_pos h]
  · rw [if_neg h, if_neg h]
    split
    · rfl
    · split
      · rfl
      · split
        · rfl
        · split <;> rfl
end Go.Proofs.YtcnejgilmciljaaDoor
set_option linter.unusedSimpArgs false
set_option linter.unusedVariables false
namespace Go.Proofs.YtcnejgilmciljaaDoor
open Go.RowKit Go.PlainAid

set_option maxRecDepth 100000 in
theorem irqn_c (w : World) : Calls Tryd.prog 24 #[.pointer none] w fun e w' => e = .returned (.bool false) ∧ Below w.heap.size w w' := by
  go_enter Tryd.func24, Tryd.ntmps24
  go_wp2
  go_ret
  exact ⟨rfl, by go_grown⟩
set_option maxRecDepth 100000 in
theorem irqp_c (tb o : Nat) (x : Tm) (w : World) (h : Tw tb o x w) : Calls Tryd.prog 24 #[.pointer (some ⟨tb, o, none⟩)] w fun e w' => e = .returned (.bool (x.g && x.s)) ∧ Below w.heap.size w w' := by
  obtain ⟨h0, h1, h2, h3, h4, h5⟩ := h.cells
  obtain ⟨l, c, r, a, s, g⟩ := x
  dsimp only at *
  clear h
  cases g
  all_goals
    go_enter Tryd.func24, Tryd.ntmps24
    go_wp2
    go_ret
    exact ⟨rfl, by go_grown⟩
set_option maxRecDepth 100000 in
theorem tickn_c (w : World) : Calls Tryd.prog 41 #[.pointer none] w fun e w' => e = .returned (.tuple #[]) ∧ Below w.heap.size w w' := by
  go_enter Tryd.func41, Tryd.ntmps41
  go_wp2
  go_end0
  exact ⟨rfl, by go_grown⟩
set_option maxRecDepth 100000 in
theorem tickp_c (tb o : Nat) (x : Tm) (hm : x.May) (w : World) (h : Tw tb o x w) : Calls Tryd.prog 41 #[.pointer (some ⟨tb, o, none⟩)] w (TmEnd tb o (.tuple #[]) (tickT x) w) := by
  obtain ⟨h0, h1, h2, h3, h4, h5⟩ := h.cells
  have f1 := h.f 1 (by omega)
  have f2 := h.f 2 (by omega)
  have f5 := h.f 5 (by omega)
  have HP := Lib.hid h.start
  obtain ⟨l, c, r, a, s, g⟩ := x
  obtain ⟨m1, m2⟩ := hm
  dsimp only at *
  clear h
  cases r
  · rw [tickT_still _ rfl]
    go_enter Tryd.func41, Tryd.ntmps41
    go_wp2
    go_end0
    exact ⟨rfl, HP.out⟩
  · by_cases hc : 0 < c
    · have e : tickT ⟨l, c, true, a, s, g⟩ = ⟨l, c - 1, true, a, s, g⟩ := by unfold tickT; rw [if_pos rfl, if_pos hc]
      rw [e]
      clear e
      go_enter Tryd.func41, Tryd.ntmps41
      go_wp2
      go_end0
      exact ⟨rfl, HP.out.setC (c - 1)⟩
    · cases a
      · have e : tickT ⟨l, c, true, false, s, g⟩ = ⟨l, c, false, false, s, true⟩ := by unfold tickT; rw [if_pos rfl, if_neg hc, if_neg (by simp)]
        rw [e]
        clear e
        go_enter Tryd.func41, Tryd.ntmps41
        go_wp2
        go_end0
        exact ⟨rfl, (HP.out.setG true).setR false⟩
      · have e : tickT ⟨l, c, true, true, s, g⟩ = ⟨l, l, true, true, s, true⟩ := by unfold tickT; rw [if_pos rfl, if_neg hc, if_pos rfl]
        rw [e]
        clear e
        go_enter Tryd.func41, Tryd.ntmps41
        go_wp2
        go_end0
        exact ⟨rfl, ((HP.out.setG true).setR true).setC l⟩
end Go.Proofs.YtcnejgilmciljaaDoor
set_option linter.unusedSimpArgs false
set_option linter.unusedVariables false
namespace Go.Proofs.YtcnejgilmciljaaDoor

theorem ofInt_w (a : Nat) (ha : a < 65536) : (BitVec.ofInt 64 (a : Int)).toNat = a := by
  rw [BitVec.ofInt_natCast, BitVec.toNat_ofNat]; exact Nat.mod_eq_of_lt (by omega)
theorem w_or_nat (a b : Nat) (ha : a < 65536) (hb : b < 65536) : bits .or .i64 (a : Int) (b : Int) = ((a ||| b : Nat) : Int) := by
  have hx : a ||| b < 2 ^ 16 := Nat.or_lt_two_pow (by omega) (by omega)
  show IntKind.i64.wrap ((BitVec.ofInt 64 (a : Int) ||| BitVec.ofInt 64 (b : Int)).toNat : Int) = _
  rw [BitVec.toNat_or, ofInt_w a ha, ofInt_w b hb]
  exact IntWalk.i64_in _ (by omega)
theorem w_andNot_nat (a b : Nat) (ha : a < 65536) (hb : b < 65536) : bits .andNot .i64 (a : Int) (b : Int) = ((a &&& (18446744073709551615 - b) : Nat) : Int) := by
  have hx : a &&& (18446744073709551615 - b) ≤ a := Nat.and_le_left
  show IntKind.i64.wrap ((BitVec.ofInt 64 (a : Int) &&& ~~~BitVec.ofInt 64 (b : Int)).toNat : Int) = _
  rw [BitVec.toNat_and, BitVec.toNat_not, ofInt_w a ha, ofInt_w b hb]
  have e : 2 ^ 64 - 1 - b = 18446744073709551615 - b := by omega
  rw [e]
  exact IntWalk.i64_in _ (by omega)
theorem or_low (q v : Nat) (hv : v < 256) : q * 256 ||| v = q * 256 + v := by
  have := Nat.shiftLeft_add_eq_or_of_lt (i := 8) (b := v) (by omega) q
  rw [Nat.shiftLeft_eq, show (2 : Nat) ^ 8 = 256 from rfl] at this
  omega
theorem low_byte (l v : Int) (hl : 0 ≤ l ∧ l < 65536) (hv : 0 ≤ v ∧ v ≤ 255) : bits .or .i64 (bits .andNot .i64 l 255) v = l / 256 * 256 + v := by
  obtain ⟨a, rfl⟩ : ∃ a : Nat, l = (a : Int) := ⟨l.toNat, by omega⟩
  obtain ⟨b, rfl⟩ : ∃ b : Nat, v = (b : Int) := ⟨v.toNat, by omega⟩
  have h1 := w_andNot_nat a 255 (by omega) (by omega)
  rw [show (18446744073709551615 - 255 : Nat) = 18446744073709551360 from rfl, nat_hi64_8, Nat.mod_eq_of_lt (by omega)] at h1
  rw [show ((255 : Nat) : Int) = 255 from rfl] at h1
  rw [h1, w_or_nat _ _ (by omega) (by omega), or_low _ _ (by omega)]
  omega
theorem mask_low (a : Nat) (ha : a < 65536) : a &&& 18446744073709486335 = a % 256 := by
  have e : a &&& 65535 = a := by
    rw [show (65535 : Nat) = 2 ^ 16 - 1 from rfl, Nat.and_two_pow_sub_one_eq_mod]
    exact Nat.mod_eq_of_lt (by omega)
  have h2 : a &&& 255 = a % 256 := by rw [show (255 : Nat) = 2 ^ 8 - 1 from rfl, Nat.and_two_pow_sub_one_eq_mod]
  rw [← h2]
  conv => lhs; rw [← e]
  rw [Nat.and_assoc, show (65535 &&& 18446744073709486335 : Nat) = 255 by decide]
theorem high_byte (l v : Int) (hl : 0 ≤ l ∧ l < 65536) (hv : 0 ≤ v ∧ v ≤ 255) : bits .or .i64 (bits .andNot .i64 l 65280) (v * 256) = l % 256 + 256 * v := by
  obtain ⟨a, rfl⟩ : ∃ a : Nat, l = (a : Int) := ⟨l.toNat, by omega⟩
  obtain ⟨b, rfl⟩ : ∃ b : Nat, v = (b : Int) := ⟨v.toNat, by omega⟩
  have h1 := w_andNot_nat a 65280 (by omega) (by omega)
  rw [show (18446744073709551615 - 65280 : Nat) = 18446744073709486335 from rfl, mask_low a (by omega)] at h1
  rw [show ((65280 : Nat) : Int) = 65280 from rfl] at h1
  rw [h1, show (b : Int) * 256 = ((b * 256 : Nat) : Int) by omega, w_or_nat _ _ (by omega) (by omega), Nat.or_comm, or_low _ _ (by omega)]
  omega
/-- A property of bytes, by each of them. -/
theorem byte_all (p : Int → Bool) (h : (List.range 256).all (fun n => p (n : Int)) = true) (v : Int) (hv : 0 ≤ v ∧ v ≤ 255) : p v = true := by
  have := List.all_eq_true.1 h v.toNat (List.mem_range.2 (by omega))
  rwa [show (v.toNat : Int) = v by omega] at this
theorem on1 (v : Int) (hv : 0 ≤ v ∧ v ≤ 255) : (bits .and .u8 v 1 == 1) = onT v 1 := by
  have := byte_all (fun v => (bits .and .u8 v 1 == 1) == onT v 1) (by decide +kernel) v hv
  simpa using this
theorem on2 (v : Int) (hv : 0 ≤ v ∧ v ≤ 255) : (bits .and .u8 (v / 2) 1 == 1) = onT v 2 := by
  have := byte_all (fun v => (bits .and .u8 (v / 2) 1 == 1) == onT v 2) (by decide +kernel) v hv
  simpa using this
theorem on4 (v : Int) (hv : 0 ≤ v ∧ v ≤ 255) : (bits .and .u8 (v / 4) 1 == 1) = onT v 4 := by
  have := byte_all (fun v => (bits .and .u8 (v / 4) 1 == 1) == onT v 4) (by decide +kernel) v hv
  simpa using this
/-- The control byte's three bits, read again. -/
theorem ctrl_on (v : Int) (hv : 0 ≤ v ∧ v ≤ 255) : ctrlT (onT v 1) (onT v 2) (onT v 4) = v % 8 := by
  have := byte_all (fun v => ctrlT (onT v 1) (onT v 2) (onT v 4) == v % 8) (by decide +kernel) v hv
  simpa using this
theorem ctrl_byte (r a s : Bool) : 0 ≤ ctrlT r a s ∧ ctrlT r a s ≤ 7 := by cases r <;> cases a <;> cases s <;> decide
end Go.Proofs.YtcnejgilmciljaaDoor
