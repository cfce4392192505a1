/-
  Layer 13's laws: the document's bus of a setup, walked (genpl13.py writes it).
-/
import Derived.Test.YtcnejgilmciljaaGreatDoorPlain13
import Derived.Test.YtcnejgilmciljaaGreatDoorPlanXD
set_option linter.unusedSimpArgs false
set_option linter.unusedVariables false
namespace Go.Proofs.YtcnejgilmciljaaGreatDoor
open Go.RowKit Go.PlainAid

/-- The rows of the document's bus, ahead of all puts. -/
abbrev rB0 (pub sec : List Int) : List Rw := rB [] (.slice none 0 0) ⟨pub, sec, [], [], [], []⟩ (.slice none 0 0) (.slice none 0 0) (.slice none 0 0) (.slice none 0 0)
theorem foot0 {rb : Nat} {pub sec : List Int} {k : Nat} (h : foot rb (rB0 pub sec) k) : k = rb := by
  rcases h with rfl | ⟨r, hr, hk⟩
  · rfl
  · simp only [rB0, rB, List.mem_cons, List.mem_nil_iff, or_false] at hr
    rcases hr with rfl | rfl | rfl | rfl | rfl <;> simp [Value.ownBlock] at hk
/-- What the loop over chunks knows: but for memory the block stands as it was made. -/
structure PlainJ (rb : Nat) (pub sec : List Int) (u0 : World) (L : List Pt) (m : Value) (u : World) : Prop where
  q : Hq rb (rB0 pub sec) (rB L m ⟨pub, sec, [], [], [], []⟩ (.slice none 0 0) (.slice none 0 0) (.slice none 0 0) (.slice none 0 0)) u0 u
theorem PlainJ.dbus {rb : Nat} {pub sec : List Int} {T : Tm} {x y : Value} {u0 u : World} {L : List Pt} {m : Value} (h : PlainJ rb pub sec u0 L m u) (hd : Dbus rb ⟨[], T, ⟨pub, sec, [], [], [], []⟩, wh0, 0⟩ (.slice none 0 0) x y (.slice none 0 0) (.slice none 0 0) (.slice none 0 0) (.slice none 0 0) u0) :
    Dbus rb ⟨L, T, ⟨pub, sec, [], [], [], []⟩, wh0, 0⟩ m x y (.slice none 0 0) (.slice none 0 0) (.slice none 0 0) (.slice none 0 0) u :=
  have e : ∀ j, (0 < j ∧ j < 9) ∨ 12 < j → u.cell? ⟨rb, j, none⟩ = u0.cell? ⟨rb, j, none⟩ ∧ u.frozen? ⟨rb, j, none⟩ = u0.frozen? ⟨rb, j, none⟩ := fun j hj => h.q.at_ j (rB_off _ _ _ _ _ _ _ j hj)
  ⟨hd.db.hqm h.q, hd.t.at_ (fun j hj => e j (by unfold kT at hj; omega)), hd.h.at_ (fun j hj => e j (by unfold kW at hj; omega)), hd.n.at_ (e 17 (by omega))⟩
theorem PlainJ.cell {rb : Nat} {pub sec : List Int} {u0 u : World} {L : List Pt} {m : Value} (h : PlainJ rb pub sec u0 L m u) {b o : Nat} {v : Value} (hb : b ≠ rb) (hc : u0.cell? ⟨b, o, none⟩ = some v) : u.cell? ⟨b, o, none⟩ = some v :=
  h.q.fr.cell hc (fun hf => hb (foot0 hf))
theorem PlainJ.below {rb : Nat} {pub sec : List Int} {u0 u v : World} {L : List Pt} {m : Value} (h : PlainJ rb pub sec u0 L m u) (h0 : Hold rb (rB0 pub sec) u0) (hb : Below u.heap.size u v) : PlainJ rb pub sec u0 L m v := ⟨h.q.below h0 hb⟩
theorem PlainJ.put {rb : Nat} {pub sec : List Int} {u0 u v : World} {L L' : List Pt} {m m' : Value} (h : PlainJ rb pub sec u0 L m u) (h0 : Hold rb (rB0 pub sec) u0)
    (hq : Hq rb (rB L m ⟨pub, sec, [], [], [], []⟩ (.slice none 0 0) (.slice none 0 0) (.slice none 0 0) (.slice none 0 0)) (rB L' m' ⟨pub, sec, [], [], [], []⟩ (.slice none 0 0) (.slice none 0 0) (.slice none 0 0) (.slice none 0 0)) u v) : PlainJ rb pub sec u0 L' m' v := ⟨Hq.trans h0 h.q hq⟩
/-- What was put last: how many at most. -/
theorem ckL_len (L : List Pt) (x : Ck) (h : x.l.length ≤ 60) : (ckL L x).length ≤ L.length + 120 := by
  have h1 : (loadP L x.a x.l).2.length ≤ L.length + 60 := by
    unfold loadP
    split
    · dsimp only; omega
    · dsimp only; rw [List.length_append, putsP_len]; omega
  have h2 : ∀ (n : Nat) (L : List Pt) (a t : Int), (labsP n L a t).length = L.length + n := by
    intro n
    induction n with
    | zero => intro L a t; rfl
    | succ n ih => intro L a t; rw [labsP, ih, List.length_append]; simp; omega
  unfold ckL
  split
  · unfold labelP
    split
    · dsimp only; omega
    · dsimp only; rw [h2]; omega
  · omega
theorem loadP_ok {L : List Pt} {a : Int} {l : List Int} (h : (loadP L a l).1 = 0) (hl : 0 < l.length) : 0 ≤ a ∧ a + l.length ≤ 65536 := by
  unfold loadP at h
  split at h
  · simp at h
  · rename_i hc
    simp only [Bool.or_eq_true, Bool.and_eq_true, decide_eq_true_eq, Bool.not_eq_true', not_or, not_and] at hc
    have h1 := hc.2 (by omega)
    simp at h1
    unfold oneB ramB romB at h1
    simp only [Bool.or_eq_true, Bool.and_eq_true, decide_eq_true_eq] at h1
    omega
set_option maxRecDepth 100000 in
set_option maxHeartbeats 16000000 in
theorem plain13_c (s : Su) (lv pv sv : Value) (w : World) (h : InS w.heap.size w lv pv sv s) (hck : ∀ x ∈ s.cs, x.l.length ≤ 60) (hcs : s.cs.length ≤ 6) (h1 : s.pub.length ≤ 60) (h2 : s.sec.length ≤ 60) :
    Calls Tryz.prog 9 #[.agg (suA lv pv sv s.T)] w (NewT (fun b => DB b (suD s)) (fun v => v) w) := by
  have HP := Lib.hid h.p.1
  have HS := Lib.hid h.s.1
  have HCK := Lib.hid hck
  have HQ := Lib.hid (show cksL s.cs [] = suL s from rfl)
  have hl := h.cl
  obtain ⟨p, c, rfl⟩ := h.c.form
  have HV := Lib.hid h.c
  obtain ⟨cs, T, pub, sec⟩ := s
  dsimp only at *
  obtain ⟨n, hn⟩ : ∃ n, cs.length = n := ⟨_, rfl⟩
  rw [hn] at hl HV hcs ⊢
  have HN := Lib.hid hn
  have HPl := Lib.hid (fun W => plain10_c T W)
  obtain ⟨i0, hi, hz0, hz1, hz2⟩ := info_parts Tryz.infoU8
  clear h hck hn
  unfold suA
  go_enter Tryz.func9, Tryz.ntmps9
  go_wp2_with (at_builtin; refine wpList_append_p _ rfl _ _ 25 rfl 5 i0 _ 1 Tryz.underlying25 hi hz0 hz1 hz2 rfl rfl pub _ rfl ?c0 ?c1 ?c2 ?_)
  case c0 => exact HP.out.below (by go_grown)
  case c1 => unfold maxLen; omega
  case c2 => omega
  intro va w2 hown hb
  obtain ⟨w1, hw1⟩ : ∃ W, W = w.alloc (Obj.cells #[.slice p n c, .int .i64 T.l, .int .i64 T.c, .bool T.r, .bool T.a, .bool T.s, .bool T.g, pv, sv] 27) := ⟨_, rfl⟩
  have HC1 := Lib.hid (show ∀ i v, (#[.slice p n c, .int .i64 T.l, .int .i64 T.c, .bool T.r, .bool T.a, .bool T.s, .bool T.g, pv, sv] : Array Value)[i]? = some v → w1.cell? ⟨w.heap.size, i, none⟩ = some v from fun i v hv => by
    rw [hw1, cell_of_row _ _ _ _ _ _ (heap_alloc_new w (.cells #[.slice p n c, .int .i64 T.l, .int .i64 T.c, .bool T.r, .bool T.a, .bool T.s, .bool T.g, pv, sv] 27))]
    exact hv)
  have HB1 := Lib.hid (show Below w.heap.size w w1 from by rw [hw1]; go_grown)
  have hz1' : w1.heap.size = w.heap.size + 1 := by rw [hw1]; simp
  (try rw [← hw1] at hown)
  (try rw [← hw1] at hb)
  (try rw [← hz1'] at hown)
  (try rw [← hz1'] at hb)
  clear hw1
  have HA := Lib.hid hown
  have HB2 := Lib.hid (Below.trans HB1.out (hb.mono HB1.out.size))
  have HC2 := Lib.hid (fun i v hv => kc hb (HC1.out i v hv))
  have hs2 := hb.size
  have q8 := HC2.out 8 _ rfl
  have hq := klt q8
  obtain ⟨pa, ca, rfl⟩ := own_form hown
  clear hown hb HC1
  go_wp2_with (at_builtin; refine wpList_append_p _ rfl _ _ 25 rfl 5 i0 _ 1 Tryz.underlying25 hi hz0 hz1 hz2 rfl rfl sec _ rfl ?d0 ?d1 ?d2 ?_)
  case d0 => exact HS.out.below HB2.out
  case d1 => unfold maxLen; omega
  case d2 => omega
  intro vb w3 hown hb
  have HA2 := Lib.hid hown
  have HA1 := Lib.hid (own_below HA.out hb)
  have HB3 := Lib.hid (Below.trans HB2.out (hb.mono HB2.out.size))
  have HC3 := Lib.hid (fun i v hv => kc hb (HC2.out i v hv))
  have hs3 := hb.size
  have q1 := HC3.out 1 _ rfl
  have q2 := HC3.out 2 _ rfl
  have q3 := HC3.out 3 _ rfl
  have q4 := HC3.out 4 _ rfl
  have q5 := HC3.out 5 _ rfl
  have q6 := HC3.out 6 _ rfl
  have hq := klt q1
  obtain ⟨pb, cb, rfl⟩ := own_form hown
  clear hown hb q8 HC2 HA HB1 HB2
  go_wp2_with fail
  refine (HPl.out _).mono ?_
  rintro _ w4 ⟨rfl, hb⟩
  have HX := Lib.hid (And.intro (own_below HA1.out hb) (own_below HA2.out hb))
  have HXl := Lib.hid (show (∀ b, (Value.slice pa pub.length ca).ownBlock = some b → b < w4.heap.size) ∧ ∀ b, (Value.slice pb sec.length cb).ownBlock = some b → b < w4.heap.size from ⟨fun b hbb => by have := (HA1.out.lt b hbb).2; have := hb.size; omega, fun b hbb => by have := (HA2.out.lt b hbb).2; have := hb.size; omega⟩)
  have HXg := Lib.hid (show (∀ b, (Value.slice pa pub.length ca).ownBlock = some b → w.heap.size ≤ b) ∧ ∀ b, (Value.slice pb sec.length cb).ownBlock = some b → w.heap.size ≤ b from ⟨fun b hbb => by have := (HA1.out.lt b hbb).1; omega, fun b hbb => by have := (HA2.out.lt b hbb).1; omega⟩)
  have HB4 := Lib.hid (Below.trans HB3.out (hb.mono HB3.out.size))
  have HC4 := Lib.hid (fun i v hv => kc hb (HC3.out i v hv))
  have hs4 := hb.size
  have hq4 := klt (HC4.out 1 _ rfl)
  clear hb q1 q2 q3 q4 q5 q6 hq HC3 HA1 HA2 HB3 HPl
  go_wp2_with fail
  have hpn := plain_new (W := w4) T (.slice pa pub.length ca) (.slice pb sec.length cb) 47 (w := w) (nb := w.heap.size) (by omega) HB4.out
  unfold dbA at hpn
  obtain ⟨u0, hu0⟩ : ∃ W, W = w4.alloc (Obj.cells #[.slice none 0 0, .int .i64 T.l, .int .i64 T.c, .bool T.r, .bool T.a, .bool T.s, .bool T.g, .slice pa pub.length ca, .slice pb sec.length cb, .slice none 0 0, .slice none 0 0, .slice none 0 0, .slice none 0 0, .int .i64 0, .int .i64 0, .int .i64 0, .int .u8 0, .int .i64 0] 47) := ⟨_, rfl⟩
  have hbu : Below w4.heap.size w4 u0 := by rw [hu0]; go_grown
  rw [← hu0] at hpn
  have HD0 := Lib.hid (plain_end hpn.1 (x := .slice pa pub.length ca) (y := .slice pb sec.length cb) (T := T) (pub := pub) (sec := sec) hpn.2.1 hpn.2.2 (HoldsW.own bE_len (own_below HX.out.1 hbu)) (HoldsW.own bE_len (own_below HX.out.2 hbu)) (fun _ b hb => HXl.out.1 b hb) (fun _ b hb => HXl.out.2 b hb))
  have HJ0 := Lib.hid (show PlainJ w4.heap.size pub sec u0 [] (.slice none 0 0) u0 from ⟨Hq.refl HD0.out.db.hold⟩)
  have HC0 := Lib.hid (fun i v hv => kc hbu (HC4.out i v hv))
  have HB0 := Lib.hid (Below.trans HB4.out (hbu.mono HB4.out.size))
  rw [← hu0]
  have hzu0 : u0.heap.size = w4.heap.size + 1 := by rw [hu0]; simp
  clear hpn hbu hu0 HX HXl HC4
  obtain ⟨rb, hrb⟩ : ∃ r, w4.heap.size = r := ⟨_, rfl⟩
  rw [hrb] at HD0 HJ0 hzu0 hs4 hq4 ⊢
  have HB4w := Lib.hid (show w.heap.size + 1 ≤ rb from by omega)
  go_loopw [6] (fun i wr => ∃ (k : Nat) (L : List Pt) (m : Value), k ≤ n ∧ i = .int .i64 k ∧ Hid (cksL (cs.drop k) L = suL ⟨cs, T, pub, sec⟩) ∧ Hid (L.length ≤ 120 * k) ∧ Hid (PlainJ rb pub sec u0 L m wr)) (fun i _ => n - (intOf i).toNat)
  case atStart => exact ⟨0, [], .slice none 0 0, Nat.zero_le _, rfl, Lib.hid (by rw [List.drop_zero]; exact HQ.out), Lib.hid (by simp), HJ0⟩
  case round =>
    clear HJ0 HQ
    obtain ⟨k, L, mv, hk, rfl, HKL, HLn, HJ⟩ := hrel
    have hb4w := HB4w.out
    have c0 : wr.cell? ⟨w.heap.size, 0, none⟩ = some (.slice p n c) := HJ.out.cell (by omega) (HC0.out 0 _ rfl)
    have hbk := klt c0
    by_cases hlt : k < n
    · have hk1 : k < cs.length := by have := HN.out; omega
      have hd : decide ((k : Int) < (n : Int)) = true := decide_eq_true (by omega)
      have hin : (0 : Int) ≤ (k : Int) ∧ (k : Int) < (n : Int) := by omega
      have hw1 : IntKind.i64.wrap ((k : Int) + 1) = (k : Int) + 1 := IntWalk.i64_in _ (by omega)
      rcases HV.out with ⟨_, e⟩ | ⟨g, o, cap, e1, hcap, hgN, hcc⟩
      · subst e; exact absurd hk1 (by simp)
      obtain ⟨rfl, n1, rfl⟩ := Value.slice.inj e1
      clear e1 n1
      obtain ⟨xv, x0, x1, x2, x6, x7⟩ := hcc k _ (List.getElem?_eq_getElem hk1)
      have hst := HKL.out
      have hmem := HCK.out _ (List.getElem_mem hk1)
      rw [List.drop_eq_getElem_cons hk1, cksL] at hst
      generalize cs[k] = x at *
      obtain ⟨xa, xl, xt⟩ := x
      dsimp only at x0 x1 x2 x6 x7 hmem
      obtain ⟨lp, lc, rfl⟩ := x6.form
      obtain ⟨m, hm⟩ : ∃ m, xl.length = m := ⟨_, rfl⟩
      have HST := Lib.hid hst
      have hx_0 := HJ.out.cell (by omega) (kc HB0.out x0)
      have hx_1 := HJ.out.cell (by omega) (kc HB0.out x1)
      have hx_2 := HJ.out.cell (by omega) (kc HB0.out x2)
      have HX := Lib.hid (show HoldsW bE 1 wr (.slice lp xl.length lc) xl from (x6.below HB0.out).fr HJ.out.q.fr (fun hl b hb hf => by have := foot0 hf; have := x7 (List.length_pos_iff.2 hl) b hb; omega))
      have HHM := Lib.hid hm
      have HCk := Lib.hid (ckL_len L ⟨xa, xl, xt⟩ hmem)
      have HFt := Lib.hid (show 0 < xl.length → ∀ g, (Value.slice lp m lc).ownBlock = some g → ¬ foot rb (rB L mv ⟨pub, sec, [], [], [], []⟩ (.slice none 0 0) (.slice none 0 0) (.slice none 0 0) (.slice none 0 0)) g from fun hl g hg hf => by
        rw [hm] at x7
        have h1 := x7 (by omega) g hg
        rcases HJ.out.q.ft g hf with h2 | h2
        · have := foot0 h2; omega
        · omega)
      rw [hm] at hx_1 HX hmem
      have hgl := klt hx_0
      have hll := HLn.out
      clear hcc hst x0 x1 x2 x6 x7 hm HKL
      go_wp2_with fail
      obtain ⟨ur, hur⟩ : ∃ W, W = wr.alloc (Obj.cells #[.int .i64 xa, .slice lp m lc, .int .u8 xt] 73) := ⟨_, rfl⟩
      have y0 : ur.cell? ⟨wr.heap.size, 0, none⟩ = some (.int .i64 xa) := by rw [hur]; go_simp; first | done | rfl
      have y1 : ur.cell? ⟨wr.heap.size, 1, none⟩ = some (.slice lp m lc) := by rw [hur]; go_simp; first | done | rfl
      have y2 : ur.cell? ⟨wr.heap.size, 2, none⟩ = some (.int .u8 xt) := by rw [hur]; go_simp; first | done | rfl
      have hbr : Below wr.heap.size wr ur := by rw [hur]; go_grown
      have hszr := klt y0
      have HJ1 := Lib.hid (HJ.out.below HD0.out.db.hold hbr)
      have HDb := Lib.hid (HJ1.out.dbus HD0.out).db
      have HX1 := Lib.hid (HX.out.below hbr)
      have HFl := Lib.hid (fun g hf => (HJ.out.dbus HD0.out).db.hold.foot_lt (b := g) hf)
      have hrl : rb < ur.heap.size := HDb.out.hold.lt
      rw [← hur]
      clear hur hbr HJ HX c0 hx_0 hx_1 hx_2 hgl
      have hload := fun W (hW : Below ur.heap.size ur W) => loadm_c L (by omega) xa xl (by have := HHM.out; omega) rb mv (.slice lp m lc) ⟨pub, sec, [], [], [], []⟩ (.slice pa pub.length ca) (.slice pb sec.length cb) (.slice none 0 0) (.slice none 0 0) (.slice none 0 0) (.slice none 0 0) W (HDb.out.below hW) (HX1.out.below hW) HFt.out
      unfold MemEndB at hload
      have HOK := Lib.hid (fun h => loadP_ok (L := L) (a := xa) (l := xl) h)
      have HS := Lib.hid (show ckL L ⟨xa, xl, xt⟩ = (if (loadP L xa xl).1 = 0 ∧ 0 < xl.length then (labelP (loadP L xa xl).2 xa (xa + xl.length - 1) xt).2 else (loadP L xa xl).2) from rfl)
      have HLb := Lib.hid (show (loadP L xa xl).2.length ≤ L.length + 60 from by
        unfold loadP
        split
        · dsimp only; omega
        · dsimp only; rw [List.length_append, putsP_len, HHM.out]; omega)
      obtain ⟨⟨E, L1⟩, hLM⟩ : ∃ X, loadP L xa xl = X := ⟨_, rfl⟩
      rw [hLM] at hload HS HOK HLb
      dsimp only at hload HS HOK HLb
      have HLoad := Lib.hid hload
      rw [HHM.out] at HS HOK
      clear hload hLM
      by_cases hE : E = 0
      · subst hE
        go_wp2_with fail
        refine wp_region_planXD 9 15 7 (fun bo W => (W.cell? ⟨wr.heap.size, 0, none⟩ = some (.int .i64 xa) ∧ W.cell? ⟨wr.heap.size, 1, none⟩ = some (.slice lp m lc) ∧ W.cell? ⟨wr.heap.size, 2, none⟩ = some (.int .u8 xt)) ∧ bif bo then (∃ W0 m1, Below ur.heap.size ur W0 ∧ Hq rb (rB L mv ⟨pub, sec, [], [], [], []⟩ (.slice none 0 0) (.slice none 0 0) (.slice none 0 0) (.slice none 0 0)) (rB L1 m1 ⟨pub, sec, [], [], [], []⟩ (.slice none 0 0) (.slice none 0 0) (.slice none 0 0) (.slice none 0 0)) W0 W) else Below ur.heap.size ur W) (by decide) (by kernel_rfl) (by kernel_rfl) (by kernel_rfl) (by kernel_rfl) ?_ ?_
        · (try dsimp only)
          refine ⟨⟨y0, y1, y2⟩, ?_⟩
          (try simp only [cond_false]); exact Below.drew (Below.refl _ _)
        (try simp only [List.append_eq, List.cons_append, List.nil_append, List.toList_toArray, List.take_succ_cons, List.take_zero, List.drop_succ_cons, List.drop_zero])
        repeat (first
          | (refine PlanX.val (v := ?_) (by decide) ?_ ?_ ?_; rotate_left; (· rfl); (· (intro bo W hSw; obtain ⟨⟨bx0, bx1, bx2⟩, -⟩ := hSw; go_simp; all_goals (first | (with_reducible rfl) | (constructor <;> (with_reducible rfl))))); (try simp only [Act.put, List.setIfInBounds_toArray, List.set_cons_zero, List.set_cons_succ]))
          | (refine PlanX.no (by decide) ?_ ?_; (· rfl); (try simp only [Act.put, List.setIfInBounds_toArray, List.set_cons_zero, List.set_cons_succ]))
          | (refine PlanX.turn (v := .int .i64 0) (f := ?_) (args := ?_) (by decide) ?_ ?_ ?_ ?_; rotate_left 2; (· rfl); (· (intro W hSw; obtain ⟨⟨bx0, bx1, bx2⟩, -⟩ := hSw; go_simp; all_goals (first | (with_reducible rfl) | (constructor <;> (with_reducible rfl))))); (· (intro W hSw; exact (HLoad.out W hSw.2).mono fun e w' ⟨h1, m1, h2, h3⟩ => ⟨h1, ⟨h2.fr.cell hSw.1.1 (fun hf => by have := HFl.out _ hf; omega), h2.fr.cell hSw.1.2.1 (fun hf => by have := HFl.out _ hf; omega), h2.fr.cell hSw.1.2.2 (fun hf => by have := HFl.out _ hf; omega)⟩, W, m1, hSw.2, h2⟩)); (try simp only [Act.put, List.setIfInBounds_toArray, List.set_cons_zero, List.set_cons_succ])))
        refine PlanX.done ?_
        intro U T0
        obtain ⟨⟨y0, y1, y2⟩, W0, m1, hbW, hq⟩ := T0
        have HJ2 := Lib.hid ((HJ1.out.below HD0.out.db.hold hbW).put HD0.out.db.hold hq)
        have HFl2 := Lib.hid (fun g (hf : foot rb (rB L1 m1 ⟨pub, sec, [], [], [], []⟩ (.slice none 0 0) (.slice none 0 0) (.slice none 0 0) (.slice none 0 0)) g) => (hq.ft g hf).elim (fun h => .inl (HFl.out g h)) (fun h => (.inr (Nat.le_trans hbW.size h) : g < wr.heap.size ∨ ur.heap.size ≤ g)))
        have hyl := klt y0
        clear hbW hq HJ1 HDb HX1 HFt
        by_cases hm0 : 0 < m
        · have hok := HOK.out (by first | rfl | trivial) hm0
          have hd2 : decide ((0 : Int) < (m : Int)) = true := decide_eq_true (by omega)
          have hw2 : IntKind.i64.wrap (xa + (m : Int)) = xa + m := IntWalk.i64_in _ (by omega)
          have hw3 : IntKind.i64.wrap (xa + (m : Int) - 1) = xa + m - 1 := IntWalk.i64_in _ (by omega)
          have hs := HS.out
          rw [if_pos ⟨by first | rfl | trivial, hm0⟩] at hs
          have HS2 := Lib.hid hs
          have hlb := HLb.out
          have hlabel := fun W (hW : Below U.heap.size U W) => labelm_c L1 xa (xa + m - 1) xt (fun _ => by omega) rb m1 ⟨pub, sec, [], [], [], []⟩ (.slice pa pub.length ca) (.slice pb sec.length cb) (.slice none 0 0) (.slice none 0 0) (.slice none 0 0) (.slice none 0 0) W ((HJ2.out.below HD0.out.db.hold hW).dbus HD0.out).db
          unfold MemEndB at hlabel
          obtain ⟨⟨E2, L2⟩, hLM2⟩ : ∃ X, labelP L1 xa (xa + m - 1) xt = X := ⟨_, rfl⟩
          rw [hLM2] at hlabel HS2
          dsimp only at hlabel HS2
          have HLabel := Lib.hid hlabel
          have HCk2 := Lib.hid (show L2.length ≤ L.length + 120 from by have := HCk.out; rw [HS2.out] at this; exact this)
          have hll2 := HCk2.out
          clear hs hlabel hLM2 HLoad
          go_wp2_with fail
          refine wp_region_planXD 9 15 14 (fun bo W => (W.cell? ⟨wr.heap.size, 0, none⟩ = some (.int .i64 xa) ∧ W.cell? ⟨wr.heap.size, 1, none⟩ = some (.slice lp m lc) ∧ W.cell? ⟨wr.heap.size, 2, none⟩ = some (.int .u8 xt)) ∧ bif bo then (∃ W0 m2, Below U.heap.size U W0 ∧ Hq rb (rB L1 m1 ⟨pub, sec, [], [], [], []⟩ (.slice none 0 0) (.slice none 0 0) (.slice none 0 0) (.slice none 0 0)) (rB L2 m2 ⟨pub, sec, [], [], [], []⟩ (.slice none 0 0) (.slice none 0 0) (.slice none 0 0) (.slice none 0 0)) W0 W) else Below U.heap.size U W) (by decide) (by kernel_rfl) (by kernel_rfl) (by kernel_rfl) (by kernel_rfl) ?_ ?_
          · (try dsimp only)
            refine ⟨⟨y0, y1, y2⟩, ?_⟩
            (try simp only [cond_false]); exact Below.drew (Below.refl _ _)
          (try simp only [List.append_eq, List.cons_append, List.nil_append, List.toList_toArray, List.take_succ_cons, List.take_zero, List.drop_succ_cons, List.drop_zero])
          repeat (first
            | (refine PlanX.val (v := ?_) (by decide) ?_ ?_ ?_; rotate_left; (· rfl); (· (intro bo W hSw; obtain ⟨⟨bx0, bx1, bx2⟩, -⟩ := hSw; go_simp; all_goals (first | (with_reducible rfl) | (constructor <;> (with_reducible rfl))))); (try simp only [Act.put, List.setIfInBounds_toArray, List.set_cons_zero, List.set_cons_succ]))
            | (refine PlanX.no (by decide) ?_ ?_; (· rfl); (try simp only [Act.put, List.setIfInBounds_toArray, List.set_cons_zero, List.set_cons_succ]))
            | (refine PlanX.turn (v := .int .i64 E2) (f := ?_) (args := ?_) (by decide) ?_ ?_ ?_ ?_; rotate_left 2; (· rfl); (· (intro W hSw; obtain ⟨⟨bx0, bx1, bx2⟩, -⟩ := hSw; go_simp; all_goals (first | (with_reducible rfl) | (constructor <;> (with_reducible rfl))))); (· (intro W hSw; exact (HLabel.out W hSw.2).mono fun e w' ⟨h1, m2, h2, h3⟩ => ⟨h1, ⟨h2.fr.cell hSw.1.1 (fun hf => by have := HFl2.out _ hf; omega), h2.fr.cell hSw.1.2.1 (fun hf => by have := HFl2.out _ hf; omega), h2.fr.cell hSw.1.2.2 (fun hf => by have := HFl2.out _ hf; omega)⟩, W, m2, hSw.2, h2⟩)); (try simp only [Act.put, List.setIfInBounds_toArray, List.set_cons_zero, List.set_cons_succ])))
          refine PlanX.done ?_
          intro V T1
          obtain ⟨⟨z0, z1, z2⟩, W1, m2, hbW, hq⟩ := T1
          have HJ3 := Lib.hid ((HJ2.out.below HD0.out.db.hold hbW).put HD0.out.db.hold hq)
          clear hbW hq z0 z1 z2
          go_wp2
          exact ⟨⟨k + 1, _, _, by omega, by simp, Lib.hid (by rw [← HST.out, HS2.out]), Lib.hid (by omega), HJ3⟩, by first | omega | (simp [intOf]; omega)⟩
        · have hd2 : decide ((0 : Int) < (m : Int)) = false := decide_eq_false (by omega)
          have hs := HS.out
          rw [if_neg (fun h => by have := h.2; omega)] at hs
          have HS2 := Lib.hid hs
          have hlb := HLb.out
          clear hs
          go_wp2
          exact ⟨⟨k + 1, _, _, by omega, by simp, Lib.hid (by rw [← HST.out, HS2.out]), Lib.hid (by omega), HJ2⟩, by first | omega | (simp [intOf]; omega)⟩
      · have hd2 : (E == 0) = false := by simpa using hE
        have hs := HS.out
        rw [if_neg (fun h => hE h.1)] at hs
        have HS2 := Lib.hid hs
        have hlb := HLb.out
        clear hs
        go_wp2_with fail
        refine wp_region_planXD 9 15 7 (fun bo W => (W.cell? ⟨wr.heap.size, 0, none⟩ = some (.int .i64 xa) ∧ W.cell? ⟨wr.heap.size, 1, none⟩ = some (.slice lp m lc) ∧ W.cell? ⟨wr.heap.size, 2, none⟩ = some (.int .u8 xt)) ∧ bif bo then (∃ W0 m1, Below ur.heap.size ur W0 ∧ Hq rb (rB L mv ⟨pub, sec, [], [], [], []⟩ (.slice none 0 0) (.slice none 0 0) (.slice none 0 0) (.slice none 0 0)) (rB L1 m1 ⟨pub, sec, [], [], [], []⟩ (.slice none 0 0) (.slice none 0 0) (.slice none 0 0) (.slice none 0 0)) W0 W) else Below ur.heap.size ur W) (by decide) (by kernel_rfl) (by kernel_rfl) (by kernel_rfl) (by kernel_rfl) ?_ ?_
        · (try dsimp only)
          refine ⟨⟨y0, y1, y2⟩, ?_⟩
          (try simp only [cond_false]); exact Below.drew (Below.refl _ _)
        (try simp only [List.append_eq, List.cons_append, List.nil_append, List.toList_toArray, List.take_succ_cons, List.take_zero, List.drop_succ_cons, List.drop_zero])
        repeat (first
          | (refine PlanX.val (v := ?_) (by decide) ?_ ?_ ?_; rotate_left; (· rfl); (· (intro bo W hSw; obtain ⟨⟨bx0, bx1, bx2⟩, -⟩ := hSw; go_simp; all_goals (first | (with_reducible rfl) | (constructor <;> (with_reducible rfl))))); (try simp only [Act.put, List.setIfInBounds_toArray, List.set_cons_zero, List.set_cons_succ]))
          | (refine PlanX.no (by decide) ?_ ?_; (· rfl); (try simp only [Act.put, List.setIfInBounds_toArray, List.set_cons_zero, List.set_cons_succ]))
          | (refine PlanX.turn (v := .int .i64 E) (f := ?_) (args := ?_) (by decide) ?_ ?_ ?_ ?_; rotate_left 2; (· rfl); (· (intro W hSw; obtain ⟨⟨bx0, bx1, bx2⟩, -⟩ := hSw; go_simp; all_goals (first | (with_reducible rfl) | (constructor <;> (with_reducible rfl))))); (· (intro W hSw; exact (HLoad.out W hSw.2).mono fun e w' ⟨h1, m1, h2, h3⟩ => ⟨h1, ⟨h2.fr.cell hSw.1.1 (fun hf => by have := HFl.out _ hf; omega), h2.fr.cell hSw.1.2.1 (fun hf => by have := HFl.out _ hf; omega), h2.fr.cell hSw.1.2.2 (fun hf => by have := HFl.out _ hf; omega)⟩, W, m1, hSw.2, h2⟩)); (try simp only [Act.put, List.setIfInBounds_toArray, List.set_cons_zero, List.set_cons_succ])))
        refine PlanX.done ?_
        intro U T0
        obtain ⟨⟨y0, y1, y2⟩, W0, m1, hbW, hq⟩ := T0
        have HJ2 := Lib.hid ((HJ1.out.below HD0.out.db.hold hbW).put HD0.out.db.hold hq)
        clear hbW hq y0 y1 y2
        go_wp2
        exact ⟨⟨k + 1, _, _, by omega, by simp, Lib.hid (by rw [← HST.out, HS2.out]), Lib.hid (by omega), HJ2⟩, by first | omega | (simp [intOf]; omega)⟩
    · obtain rfl : k = n := by omega
      have hd : decide ((k : Int) < (k : Int)) = false := decide_eq_false (by omega)
      have hdr := HKL.out
      rw [List.drop_eq_nil_of_le (by have := HN.out; omega), cksL] at hdr
      have HEND := Lib.hid (HJ.out.dbus HD0.out)
      have HBz := Lib.hid (HJ.out.q.fr.toBelow HB0.out (fun b hf => by have := foot0 hf; omega) (Nat.le_refl _))
      have HFt := Lib.hid (fun g hf => (HJ.out.q.ft g hf).elim (fun h => by have := foot0 h; omega) (fun h => by omega) : ∀ g, foot rb (rB L mv ⟨pub, sec, [], [], [], []⟩ (.slice none 0 0) (.slice none 0 0) (.slice none 0 0) (.slice none 0 0)) g → w.heap.size ≤ g)
      subst hdr
      clear HKL HJ HLn
      go_wp2
      go_ret
      exact ⟨rb, _, _, rfl, ⟨_, _, _, _, _, _, _, HEND.out, rfl, rfl⟩, fun g hg => hg.elim (fun h => HFt.out g h) (fun h => h.elim (fun h => HXg.out.1 g h.2) (fun h => HXg.out.2 g h.2)), by omega, HBz.out⟩
end Go.Proofs.YtcnejgilmciljaaGreatDoor
