/-
  Layer 13's laws: a setup; whether it is not too great.
  Layer 13's laws: the bus of a setup.
-/
import Derived.Test.YtcnejgilmciljaaGreatDoorBusK13
import Derived.Test.YtcnejgilmciljaaGreatDoorPlanR
import Derived.Test.YtcnejgilmciljaaGreatDoorLast11
import Derived.Test.YtcnejgilmciljaaGreatDoorLoadp8
set_option linter.unusedSimpArgs false
set_option linter.unusedVariables false
namespace Go.Proofs.YtcnejgilmciljaaGreatDoor
open Go.RowKit Go.PlainAid

/-- Bytes that are loaded at an address, and which bits of all of them are secret. -/
structure Ck where
  a : Int
  l : List Int
  t : Int
/-- A slice that holds such, each with its own bytes, all in blocks below N. -/
def InC (N : Nat) (w : World) (v : Value) (cs : List Ck) : Prop :=
  ((∃ p c, v = .slice p 0 c) ∧ cs = []) ∨ ∃ g o cap, v = .slice (some ⟨g, o, none⟩) cs.length cap ∧ cs.length ≤ cap ∧ g < N ∧ ∀ j (x : Ck), cs[j]? = some x →
    ∃ lv, w.cell? ⟨g, o + j * 3, none⟩ = some (.int .i64 x.a) ∧ w.cell? ⟨g, o + j * 3 + 1, none⟩ = some lv ∧ w.cell? ⟨g, o + j * 3 + 2, none⟩ = some (.int .u8 x.t) ∧ HoldsW bE 1 w lv x.l ∧ (0 < x.l.length → ∀ b, lv.ownBlock = some b → b < N)
theorem InC.form {N : Nat} {w : World} {v : Value} {cs : List Ck} (h : InC N w v cs) : ∃ p c, v = .slice p cs.length c := by
  rcases h with ⟨⟨p, c, rfl⟩, rfl⟩ | ⟨g, o, cap, rfl, _⟩
  · exact ⟨p, c, rfl⟩
  · exact ⟨_, cap, rfl⟩
theorem InC.below {N : Nat} {w u : World} {v : Value} {cs : List Ck} (h : InC N w v cs) (hb : Below w.heap.size w u) : InC N u v cs := by
  rcases h with h | ⟨g, o, cap, e, hc, hg, h⟩
  · exact .inl h
  · exact .inr ⟨g, o, cap, e, hc, hg, fun j x hx => by
      obtain ⟨lv, a0, a1, a2, a6, a7⟩ := h j x hx
      exact ⟨lv, kc hb a0, kc hb a1, kc hb a2, a6.below hb, a7⟩⟩
theorem InC.widen {N N' : Nat} {w : World} {v : Value} {cs : List Ck} (h : InC N w v cs) (hN : N ≤ N') : InC N' w v cs := by
  rcases h with h | ⟨g, o, cap, e, hc, hg, h⟩
  · exact .inl h
  · exact .inr ⟨g, o, cap, e, hc, by omega, fun j x hx => by
      obtain ⟨lv, a0, a1, a2, a6, a7⟩ := h j x hx
      exact ⟨lv, a0, a1, a2, a6, fun hl b hb => by have := a7 hl b hb; omega⟩⟩
/-- What a bus begins with. -/
structure Su where
  cs : List Ck
  T : Tm
  pub : List Int
  sec : List Int
structure InS (N : Nat) (w : World) (lv pv sv : Value) (s : Su) : Prop where
  c : InC N w lv s.cs
  cl : s.cs.length ≤ 9223372036854775807
  ck : ∀ x ∈ s.cs, (-9223372036854775808 ≤ x.a ∧ x.a ≤ 9223372036854775807) ∧ (∀ b ∈ x.l, 0 ≤ b ∧ b ≤ 255) ∧ x.l.length ≤ 9223372036854775807 ∧ 0 ≤ x.t ∧ x.t ≤ 255
  p : HoldsW bE 1 w pv s.pub ∧ (∀ b ∈ s.pub, 0 ≤ b ∧ b ≤ 255) ∧ s.pub.length ≤ 9223372036854775807
  s : HoldsW bE 1 w sv s.sec ∧ (∀ b ∈ s.sec, 0 ≤ b ∧ b ≤ 255) ∧ s.sec.length ≤ 9223372036854775807
theorem InS.below {N : Nat} {w u : World} {lv pv sv : Value} {s : Su} (h : InS N w lv pv sv s) (hb : Below w.heap.size w u) : InS N u lv pv sv s :=
  ⟨h.c.below hb, h.cl, h.ck, ⟨h.p.1.below hb, h.p.2⟩, ⟨h.s.1.below hb, h.s.2⟩⟩
def suA (lv pv sv : Value) (T : Tm) : Array Value := #[lv, .int .i64 T.l, .int .i64 T.c, .bool T.r, .bool T.a, .bool T.s, .bool T.g, pv, sv]
def fewC (x : Ck) : Bool := !decide ((60 : Int) < (x.l.length : Int))
def fewS (s : Su) : Bool := s.cs.all fewC && (decide ((s.cs.length : Int) ≤ 6) && decide ((s.pub.length : Int) ≤ 60) && decide ((s.sec.length : Int) ≤ 60))
set_option maxRecDepth 100000 in
set_option maxHeartbeats 4000000 in
theorem few13_c (N : Nat) (s : Su) (lv pv sv : Value) (w : World) (h : InS N w lv pv sv s) (hN : N ≤ w.heap.size) :
    Calls Tryz.prog 6 #[.agg (suA lv pv sv s.T)] w fun e w' => e = .returned (.bool (fewS s)) ∧ Below w.heap.size w w' := by
  obtain ⟨R, hR⟩ : ∃ R, fewS s = R := ⟨_, rfl⟩
  rw [hR]
  unfold fewS at hR
  have hl := h.cl
  obtain ⟨p, c, rfl⟩ := h.c.form
  obtain ⟨p1, c1, rfl⟩ := h.p.1.form
  obtain ⟨p2, c2, rfl⟩ := h.s.1.form
  obtain ⟨cs, T, pub, sec⟩ := s
  dsimp only at *
  have HV := Lib.hid h.c
  obtain ⟨n, hn⟩ : ∃ n, cs.length = n := ⟨_, rfl⟩
  obtain ⟨np, hnp⟩ : ∃ n, pub.length = n := ⟨_, rfl⟩
  obtain ⟨ns, hns⟩ : ∃ n, sec.length = n := ⟨_, rfl⟩
  rw [hn] at hl HV hR ⊢
  rw [hnp] at hR ⊢
  rw [hns] at hR ⊢
  have HR := Lib.hid hR
  have HN := Lib.hid hn
  unfold suA
  clear h hR hn hnp hns
  go_enter Tryz.func6, Tryz.ntmps6
  go_wp2_with fail
  go_loopw [3] (fun i wr => ∃ k : Nat, k ≤ n ∧ i = .int .i64 k ∧ Hid ((cs.drop k).all fewC = cs.all fewC) ∧ Below w.heap.size w wr ∧
    (wr.cell? ⟨w.heap.size, 0, none⟩ = some (.slice p n c) ∧ wr.cell? ⟨w.heap.size, 7, none⟩ = some (.slice p1 np c1) ∧ wr.cell? ⟨w.heap.size, 8, none⟩ = some (.slice p2 ns c2))) (fun i _ => n - (intOf i).toNat)
  case atStart => exact ⟨0, Nat.zero_le _, rfl, Lib.hid (by rw [List.drop_zero]), by go_grown, by go_simp; first | done | rfl, by go_simp; first | done | rfl, by go_simp; first | done | rfl⟩
  case round =>
    obtain ⟨k, hk, rfl, HK, hB, z0, z7, z8⟩ := hrel
    have hz0 := klt z0
    by_cases hlt : k < n
    · have hk1 : k < cs.length := by have := HN.out; omega
      have hd : decide ((k : Int) < (n : Int)) = true := decide_eq_true (by omega)
      have hin : (0 : Int) ≤ (k : Int) ∧ (k : Int) < (n : Int) := by omega
      have hw1 : IntKind.i64.wrap ((k : Int) + 1) = (k : Int) + 1 := IntWalk.i64_in _ (by omega)
      rcases HV.out with ⟨_, e⟩ | ⟨g, o, cap, e1, hcap, hgN, hcc⟩
      · subst e; exact absurd hk1 (by simp)
      obtain ⟨rfl, n1, rfl⟩ := Value.slice.inj e1
      clear e1 n1
      obtain ⟨xv, x0, x1, x2, x6, x7⟩ := hcc k _ (List.getElem?_eq_getElem hk1)
      have hst := HK.out
      rw [List.drop_eq_getElem_cons hk1, List.all_cons] at hst
      generalize cs[k] = x at *
      obtain ⟨xa, xl, xt⟩ := x
      dsimp only at x0 x1 x2 x6 x7
      obtain ⟨lp, lc, rfl⟩ := x6.form
      obtain ⟨m, hm⟩ : ∃ m, xl.length = m := ⟨_, rfl⟩
      rw [hm] at x1
      have hbig : fewC ⟨xa, xl, xt⟩ = !decide ((60 : Int) < (m : Int)) := by unfold fewC; rw [← hm]
      have hx_1 := kc hB x1
      have hgl := klt hx_1
      have HFin := Lib.hid (show fewC ⟨xa, xl, xt⟩ = false → R = false from fun h1 => by
        rw [h1] at hst
        rw [← HR.out, ← hst]
        rfl)
      have HGo := Lib.hid (show fewC ⟨xa, xl, xt⟩ = true → (cs.drop (k + 1)).all fewC = cs.all fewC from fun h1 => by
        rw [h1] at hst
        simpa using hst)
      have HBG := Lib.hid hbig
      clear hcc hst hbig x0 x1 x2 x6 x7 hm HK hk1
      by_cases c1 : 60 < m
      · have d1 : decide ((60 : Int) < (m : Int)) = true := decide_eq_true (by omega)
        have HF := Lib.hid (HFin.out (by rw [HBG.out, d1]; rfl))
        go_wp2
        go_ret
        obtain rfl := HF.out
        exact ⟨rfl, hB⟩
      · have d1 : decide ((60 : Int) < (m : Int)) = false := decide_eq_false (by omega)
        have HF := Lib.hid (HGo.out (by rw [HBG.out, d1]; rfl))
        go_wp2
        exact ⟨⟨k + 1, by omega, by simp, HF, hB, z0, z7, z8⟩, by first | omega | (simp [intOf]; omega)⟩
    · obtain rfl : k = n := by omega
      have hd : decide ((k : Int) < (k : Int)) = false := decide_eq_false (by omega)
      have hdr := HK.out
      rw [List.drop_eq_nil_of_le (by have := HN.out; omega), List.all_nil] at hdr
      have hR := HR.out
      rw [← hdr, Bool.true_and] at hR
      have HRR := Lib.hid hR.symm
      clear hdr hR
      obtain ⟨A, hA⟩ : ∃ A, decide ((k : Int) ≤ 6) = A := ⟨_, rfl⟩
      obtain ⟨B, hB'⟩ : ∃ B, decide ((np : Int) ≤ 60) = B := ⟨_, rfl⟩
      obtain ⟨C, hC⟩ : ∃ C, decide ((ns : Int) ≤ 60) = C := ⟨_, rfl⟩
      rw [hA, hB', hC] at HRR
      cases A <;> cases B <;> cases C
      all_goals
        go_wp2
        go_ret
        obtain rfl := HRR.out
        exact ⟨rfl, hB⟩
end Go.Proofs.YtcnejgilmciljaaGreatDoor
set_option linter.unusedSimpArgs false
set_option linter.unusedVariables false
namespace Go.Proofs.YtcnejgilmciljaaGreatDoor
open Go.RowKit Go.PlainAid

/-- A chunk more: the program's bytes. -/
def ckM (M : Int → Int × Int) (x : Ck) : Int → Int × Int :=
  if (loadMp M x.a x.l).1 = 0 ∧ 0 < x.l.length then (labelMp (loadMp M x.a x.l).2 x.a (x.a + x.l.length - 1) x.t).2 else (loadMp M x.a x.l).2
def cksM : List Ck → (Int → Int × Int) → Int → Int × Int
  | [], M => M
  | x :: r, M => cksM r (ckM M x)
def zeroM : Int → Int × Int := fun _ => (0, 0)
def suM (s : Su) : Int → Int × Int := cksM s.cs zeroM
def suQ (s : Su) : Bs := ⟨suM s, s.T, ⟨s.pub, s.sec, [], [], [], []⟩, wh0, 0⟩
theorem suQ_room (s : Su) (hT : s.T.May) (h1 : s.pub.length ≤ 65536) (h2 : s.sec.length ≤ 65536) : Room 1000000 (suQ s) :=
  ⟨hT, ⟨h1, h2, by simp [suQ], by simp [suQ], by simp [suQ], rfl⟩, wh0_may, by simp [suQ]⟩
def kVal (v : Value) : KdR := .val v
/-- A call that answers a wheel; one that answers a bus. -/
def kWh : KdR := .any undef (fun v => (∃ wb, v = .pointer (some ⟨wb, 0, none⟩)) ∨ v = undef) (fun x w => ∃ wb, x.v = .pointer (some ⟨wb, 0, none⟩) ∧ Pw wb wh0 w ∧ x.lo ≤ wb)
theorem kWh_fine : kWh.Fine := ⟨.inr rfl, fun x W w1 h hb => by obtain ⟨wb, e, h, hl⟩ := h; exact ⟨wb, e, h.below hb, hl⟩, fun x w h => by obtain ⟨wb, e, _⟩ := h; exact .inl ⟨wb, e⟩⟩
def kBus (BO : Nat → Bs → Thing) (B : Bs) : KdR := .any (.tuple #[undef, .int .i64 0]) (fun v => ∃ u, v = .tuple #[u, .int .i64 0]) (fun x w => ∃ bb F G, x.v = .tuple #[.pointer (some ⟨bb, 0, none⟩), .int .i64 0] ∧ BO bb B F G w ∧ (∀ k, G k → x.lo ≤ k) ∧ x.lo ≤ bb)
theorem kBus_fine {BO : Nat → Bs → Thing} (K : BusK BO) (B : Bs) : (kBus BO B).Fine :=
  ⟨⟨_, rfl⟩, fun x W w1 h hb => by obtain ⟨bb, F, G, e, h, hg, hl⟩ := h; exact ⟨bb, F, G, e, (K.frm _ _).below h hb, hg, hl⟩, fun x w h => by obtain ⟨bb, F, G, e, _⟩ := h; exact ⟨_, e⟩⟩
def fstV (l : List Value) : Value := l.headD undef
def extr0 (l : List Value) : Value := match l.headD undef with | .tuple a => a.getD 0 undef | v => v
/-- The law's own bus, of noughts. -/
def noB : Bs := ⟨zeroM, ⟨0, 0, false, false, false, false⟩, ⟨[], [], [], [], [], []⟩, wh0, 0⟩
theorem noB_eq : noB = suQ ⟨[], ⟨0, 0, false, false, false, false⟩, [], []⟩ := rfl
theorem noT_may : (⟨0, 0, false, false, false, false⟩ : Tm).May := ⟨by decide, by decide⟩
theorem noB_room : Room 1000000 noB := ⟨noT_may, ⟨by decide, by decide, by decide, by decide, by decide, rfl⟩, wh0_may, by decide⟩
set_option maxRecDepth 100000 in
set_option maxHeartbeats 4000000 in
theorem made0_c {BO : Nat → Bs → Thing} (K : BusK BO) (w : World) (h0 : 0 < w.heap.size) :
    Calls Tryz.prog 27 #[.slice none 0 0, .slice none 0 0] w (NewT (fun b => BO b noB) (fun v => v) w) := by
  have HN := Lib.hid (fun (pb mb mbb wb : Nat) (F G : Nat → Prop) (W : World) h1 h2 h3 => K.new mb mbb pb wb zeroM ⟨0, 0, false, false, false, false⟩ ⟨[], [], [], [], [], []⟩ wh0 F G W h1 noT_may noB_room.s h2 wh0_may h3)
  unfold tmVal at HN
  dsimp only at HN
  go_enter Tryz.func27, Tryz.ntmps27
  go_wp2_with fail
  refine (pnew_c [] [] (by decide) (by decide) _ _ _ (HoldsW.nil _) (HoldsW.nil _)).mono ?_
  rintro _ u ⟨pb, F, G, rfl, hpo, hg, hpl, hb⟩
  have HP := Lib.hid hpo
  have HB := Lib.hid hb
  have hz := hb.size
  clear hpo hg hpl hb
  unfold okV
  go_wp2_with fail
  refine (newp_c _ (by omega)).mono ?_
  rintro _ u2 ⟨rfl, hb2, hpm⟩
  have HP2 := Lib.hid ((PO.frm _ _).below HP.out hb2)
  have HM2 := Lib.hid hpm
  have HB2 := Lib.hid (Below.trans HB.out (hb2.mono hz))
  have hz2 := HB2.out.size
  clear hb2 hpm HP HB
  go_wp2_with fail
  refine (wnew_c _).mono ?_
  rintro _ u3 ⟨wb, rfl, hw, hwl, hb3⟩
  have HP3 := Lib.hid ((PO.frm _ _).below HP2.out hb3)
  have HM3 := Lib.hid (HM2.out.below hb3)
  have HB3 := Lib.hid (Below.trans HB2.out (hb3.mono hz2))
  have hz3 := HB3.out.size
  have HW := Lib.hid hw
  clear hw hwl hb3 HP2 HM2 HB2
  go_wp2_with fail
  refine (HN.out _ _ _ _ _ _ _ HM3.out HP3.out HW.out).mono ?_
  rintro _ u4 ⟨bb, F4, G4, rfl, ho, hg, hl, hb4⟩
  have HEND := Lib.hid (And.intro ho (And.intro hg (And.intro hl (Below.trans HB3.out (hb4.mono hz3)))))
  clear ho hg hl hb4
  unfold okV
  go_wp2
  go_ret
  exact ⟨bb, F4, G4, rfl, HEND.out.1, fun k hk => by have := HEND.out.2.1 k hk; omega, by have := HEND.out.2.2.1; omega, HEND.out.2.2.2⟩
/-- What the loop over chunks knows. -/
structure MadeI (nb : Nat) (w : World) (lv pv sv : Value) (T : Tm) (mb mbb pb : Nat) (S : Po) (F G : Nat → Prop) (M : Int → Int × Int) (u : World) : Prop where
  m : Pm mb mbb u M
  p : PO pb S F G u
  l : Laid u
  b : Below w.heap.size w u
  c : ∀ i v, (suA lv pv sv T)[i]? = some v → u.cell? ⟨nb, i, none⟩ = some v
  k : nb < u.heap.size
  n1 : w.heap.size ≤ mbb
  n2 : nb ≠ mbb
  n3 : ∀ k, G k → w.heap.size ≤ k ∧ k ≠ mbb ∧ k ≠ nb
theorem MadeI.below {nb : Nat} {w : World} {lv pv sv : Value} {T : Tm} {mb mbb pb : Nat} {S : Po} {F G : Nat → Prop} {M : Int → Int × Int} {u v : World} (h : MadeI nb w lv pv sv T mb mbb pb S F G M u) (hb : Below u.heap.size u v) : MadeI nb w lv pv sv T mb mbb pb S F G M v :=
  ⟨h.m.below hb, (PO.frm _ _).below h.p hb, h.l.below hb, Below.trans h.b (hb.mono h.b.size), fun i x hx => kc hb (h.c i x hx), Nat.lt_of_lt_of_le h.k hb.size, h.n1, h.n2, h.n3⟩
theorem MadeI.step {nb : Nat} {w : World} {lv pv sv : Value} {T : Tm} {mb mbb pb : Nat} {S : Po} {F G : Nat → Prop} {M M' : Int → Int × Int} {u v : World} (h : MadeI nb w lv pv sv T mb mbb pb S F G M u) (hg : u.grownBy v (some mbb)) (hm : Pm mb mbb v M') : MadeI nb w lv pv sv T mb mbb pb S F G M' v := by
  have hf : Fr (fun k => k = mbb) u v := Fr.ofGrown hg (fun b _ e => (Option.some.inj e).symm)
  refine ⟨hm, (PO.frm _ _).fr h.p hf (fun b hb e => (h.n3 b hb).2.1 e), h.m.laid h.l hg, hf.toBelow h.b (fun b hb => by have hb' : b = mbb := hb; have := h.n1; omega) (Nat.le_refl _), fun i x hx => hf.cell (h.c i x hx) h.n2, Nat.lt_of_lt_of_le h.k hf.size, h.n1, h.n2, h.n3⟩
/-- A chunk's own copy. -/
structure CkC (cb : Nat) (a : Int) (lv : Value) (t : Int) (u : World) : Prop where
  c0 : u.cell? ⟨cb, 0, none⟩ = some (.int .i64 a)
  c1 : u.cell? ⟨cb, 1, none⟩ = some lv
  c2 : u.cell? ⟨cb, 2, none⟩ = some (.int .u8 t)
theorem CkC.fr {cb : Nat} {a : Int} {lv : Value} {t : Int} {u v : World} {H : Nat → Prop} (h : CkC cb a lv t u) (hf : Fr H u v) (hn : ¬ H cb) : CkC cb a lv t v := ⟨hf.cell h.c0 hn, hf.cell h.c1 hn, hf.cell h.c2 hn⟩
theorem load_ok {M : Int → Int × Int} {a : Int} {l : List Int} (h : (loadMp M a l).1 = 0) (hl : 0 < l.length) : 0 ≤ a ∧ a + l.length ≤ 65536 := by
  unfold loadMp at h
  split at h
  · rename_i ho
    have := onlyB_real ho
    unfold lastA at this
    rw [if_neg (by omega)] at this
    omega
  · simp at h
set_option maxRecDepth 100000 in
set_option maxHeartbeats 8000000 in
theorem made13_c {BO : Nat → Bs → Thing} (K : BusK BO) (s : Su) (lv pv sv : Value) (w : World) (h : InS w.heap.size w lv pv sv s) (hL : Laid w) (h1 : s.pub.length ≤ 65536) (h2 : s.sec.length ≤ 65536) (hT : s.T.May) :
    Calls Tryz.prog 8 #[.agg (suA lv pv sv s.T)] w (NewT (fun b => BO b (suQ s)) (fun v => v) w) := by
  have HK := Lib.hid K
  have hlt0 := hL.lt
  have HL := Lib.hid hL
  have HRoom := Lib.hid (suQ_room s hT h1 h2)
  have HPN := Lib.hid (fun W (hW : Below w.heap.size w W) => pnew_c s.pub s.sec h1 h2 pv sv W (h.p.1.below hW) (h.s.1.below hW))
  have HCK := Lib.hid h.ck
  have HQ := Lib.hid (show cksM s.cs zeroM = suM s from rfl)
  have HT := Lib.hid hT
  have hl := h.cl
  obtain ⟨p, c, rfl⟩ := h.c.form
  have HV := Lib.hid h.c
  obtain ⟨cs, T, pub, sec⟩ := s
  dsimp only at *
  obtain ⟨n, hn⟩ : ∃ n, cs.length = n := ⟨_, rfl⟩
  rw [hn] at hl HV ⊢
  have HN := Lib.hid hn
  obtain ⟨sq, hsq⟩ : ∃ sq, sq = suQ ⟨cs, T, pub, sec⟩ := ⟨_, rfl⟩
  rw [← hsq]
  have HSQ := Lib.hid hsq
  clear h hL h1 h2 hT hn hsq
  unfold suA
  go_enter Tryz.func8, Tryz.ntmps8
  go_wp2_with fail
  have HC0 := Lib.hid (show ∀ i v, (suA (.slice p n c) pv sv T)[i]? = some v → (w.alloc (Obj.cells (suA (.slice p n c) pv sv T) 27)).cell? ⟨w.heap.size, i, none⟩ = some v from fun i v hv => by
    rw [cell_of_row _ _ _ _ _ _ (heap_alloc_new w (.cells (suA (.slice p n c) pv sv T) 27))]
    exact hv)
  have HB0 := Lib.hid (show Below w.heap.size w (w.alloc (Obj.cells (suA (.slice p n c) pv sv T) 27)) from by go_grown)
  unfold suA at HC0 HB0
  obtain ⟨w1, hw1⟩ : ∃ W, W = w.alloc (Obj.cells #[.slice p n c, .int .i64 T.l, .int .i64 T.c, .bool T.r, .bool T.a, .bool T.s, .bool T.g, pv, sv] 27) := ⟨_, rfl⟩
  have hz1 : w1.heap.size = w.heap.size + 1 := by rw [hw1]; simp
  rw [← hw1] at HC0 HB0 ⊢
  clear hw1
  refine (newp_c w1 (by omega)).mono ?_
  rintro _ u ⟨rfl, hb, hm⟩
  obtain ⟨mb, hmb⟩ : ∃ x, w1.heap.size + 1 = x := ⟨_, rfl⟩
  obtain ⟨mbb, hmbb⟩ : ∃ x, w1.heap.size = x := ⟨_, rfl⟩
  rw [hmb] at hm ⊢
  rw [hmbb] at hm
  have HB1 := Lib.hid (Below.trans HB0.out (hb.mono (by omega)))
  have HC1 := Lib.hid (fun i v hv => kc hb (HC0.out i v hv))
  have HM1 := Lib.hid hm
  have c7 : u.cell? ⟨w.heap.size, 7, none⟩ = some pv := HC1.out 7 _ rfl
  have c8 : u.cell? ⟨w.heap.size, 8, none⟩ = some sv := HC1.out 8 _ rfl
  have hzu := HB1.out.size
  have hmu := hm.lt
  have hbu := klt c7
  clear hb hm HB0 HC0
  go_wp2_with fail
  refine (HPN.out u HB1.out).mono ?_
  rintro _ u2 ⟨pb, F, G, rfl, hpo, hg, hpl, hb⟩
  have HI0 := Lib.hid (show MadeI w.heap.size w (.slice p n c) pv sv T mb mbb pb ⟨pub, sec, [], [], [], []⟩ F G zeroM u2 from
    ⟨HM1.out.below hb, hpo, HL.out.below (Below.trans HB1.out (hb.mono hzu)), Below.trans HB1.out (hb.mono hzu), fun i v hv => kc hb (HC1.out i v hv), Nat.lt_of_lt_of_le hbu hb.size, by omega, by omega, fun k hk => by have := hg k hk; omega⟩)
  clear hpo hg hpl hb c7 c8 HB1 HC1 HM1 hzu hmu hbu HPN
  unfold okV
  go_wp2_with fail
  go_loopw [6] (fun i wr => ∃ (k : Nat) (M : Int → Int × Int), k ≤ n ∧ i = .int .i64 k ∧ Hid (cksM (cs.drop k) M = suM ⟨cs, T, pub, sec⟩) ∧ Hid (MadeI w.heap.size w (.slice p n c) pv sv T mb mbb pb ⟨pub, sec, [], [], [], []⟩ F G M wr)) (fun i _ => n - (intOf i).toNat)
  case atStart => exact ⟨0, zeroM, Nat.zero_le _, rfl, Lib.hid (by rw [List.drop_zero]; exact HQ.out), HI0⟩
  case round =>
    clear HI0 HQ
    obtain ⟨k, M, hk, rfl, HKM, HI⟩ := hrel
    have c0 : wr.cell? ⟨w.heap.size, 0, none⟩ = some (.slice p n c) := HI.out.c 0 _ rfl
    have hbk := HI.out.k
    by_cases hlt : k < n
    · have hk1 : k < cs.length := by have := HN.out; omega
      have hd : decide ((k : Int) < (n : Int)) = true := decide_eq_true (by omega)
      have hin : (0 : Int) ≤ (k : Int) ∧ (k : Int) < (n : Int) := by omega
      have hw1 : IntKind.i64.wrap ((k : Int) + 1) = (k : Int) + 1 := IntWalk.i64_in _ (by omega)
      rcases HV.out with ⟨_, e⟩ | ⟨g, o, cap, e1, hcap, hgN, hcc⟩
      · subst e; exact absurd hk1 (by simp)
      obtain ⟨rfl, n1, rfl⟩ := Value.slice.inj e1
      clear e1 n1
      obtain ⟨xv, x0, x1, x2, x6, x7⟩ := hcc k _ (List.getElem?_eq_getElem hk1)
      have hst := HKM.out
      have hmem := HCK.out _ (List.getElem_mem hk1)
      rw [List.drop_eq_getElem_cons hk1, cksM] at hst
      generalize cs[k] = x at *
      obtain ⟨xa, xl, xt⟩ := x
      dsimp only at x0 x1 x2 x6 x7 hmem
      obtain ⟨lp, lc, rfl⟩ := x6.form
      obtain ⟨m, hm⟩ : ∃ m, xl.length = m := ⟨_, rfl⟩
      have HST := Lib.hid hst
      have hx_0 := kc HI.out.b x0
      have hx_1 := kc HI.out.b x1
      have hx_2 := kc HI.out.b x2
      have HX := Lib.hid (x6.below HI.out.b)
      have HX7 := Lib.hid (show 0 < xl.length → ∀ g, (Value.slice lp m lc).ownBlock = some g → g ≠ mbb from fun h g hg => by rw [hm] at x7; have := x7 (by omega) g hg; have := HI.out.n1; omega)
      have hml := hmem.2.2.1
      have HHM := Lib.hid hm
      rw [hm] at hx_1 HX
      have hgl := klt hx_0
      clear hcc hst x0 x1 x2 x6 x7 hm hmem HKM
      go_wp2_with fail
      have HI1 := Lib.hid (HI.out.below (show Below wr.heap.size wr (wr.alloc (Obj.cells #[.int .i64 xa, .slice lp m lc, .int .u8 xt] 73)) from by go_grown))
      have HC1 := Lib.hid (show CkC wr.heap.size xa (.slice lp m lc) xt (wr.alloc (Obj.cells #[.int .i64 xa, .slice lp m lc, .int .u8 xt] 73)) from ⟨by go_simp; first | done | rfl, by go_simp; first | done | rfl, by go_simp; first | done | rfl⟩)
      have HX1 := Lib.hid (HX.out.below (show Below wr.heap.size wr (wr.alloc (Obj.cells #[.int .i64 xa, .slice lp m lc, .int .u8 xt] 73)) from by go_grown))
      have hmb' := HI.out.m.lt
      refine (loadp_c M xa xl hml mb mbb _ _ HI1.out.m HI1.out.l HX1.out HX7.out).mono ?_
      rintro _ u1 ⟨rfl, hg1, hP1⟩
      have HOK := Lib.hid (fun h => load_ok (M := M) (a := xa) (l := xl) h)
      have HS := Lib.hid (show ckM M ⟨xa, xl, xt⟩ = (if (loadMp M xa xl).1 = 0 ∧ 0 < xl.length then (labelMp (loadMp M xa xl).2 xa (xa + xl.length - 1) xt).2 else (loadMp M xa xl).2) from rfl)
      obtain ⟨⟨E, M1⟩, hLM⟩ : ∃ X, loadMp M xa xl = X := ⟨_, rfl⟩
      rw [hLM] at hP1 HS HOK ⊢
      dsimp only at hP1 HS HOK ⊢
      have HI2 := Lib.hid (HI1.out.step hg1 hP1)
      have hC2 := HC1.out.fr (Fr.ofGrown (F := fun k => k = mbb) hg1 (fun b _ e => (Option.some.inj e).symm)) (by omega)
      obtain ⟨y0, y1, y2⟩ := hC2
      have hly := klt y0
      rw [HHM.out] at HS HOK
      have HY := Lib.hid (show CkC wr.heap.size xa (.slice lp m lc) xt u1 from ⟨y0, y1, y2⟩)
      clear hg1 hP1 hLM HI1 HC1 HX1 HX HI c0 hx_0 hx_1 hx_2
      by_cases hE : E = 0
      · subst hE
        by_cases hm0 : 0 < m
        · have hok := HOK.out rfl hm0
          have hd2 : decide ((0 : Int) < (m : Int)) = true := decide_eq_true (by omega)
          have hw2 : IntKind.i64.wrap (xa + (m : Int)) = xa + m := IntWalk.i64_in _ (by omega)
          have hw3 : IntKind.i64.wrap (xa + (m : Int) - 1) = xa + m - 1 := IntWalk.i64_in _ (by omega)
          have hs := HS.out
          rw [if_pos ⟨rfl, hm0⟩] at hs
          have HS2 := Lib.hid hs
          clear hs
          go_wp2_with fail
          refine (labelp_c M1 xa (xa + m - 1) xt mb mbb _ HI2.out.m HI2.out.l).mono ?_
          rintro _ u2 ⟨rfl, hg2, hP2⟩
          have HI3 := Lib.hid (HI2.out.step hg2 hP2)
          clear hg2 hP2
          go_wp2
          exact ⟨⟨k + 1, _, by omega, by simp, Lib.hid (by rw [← HST.out, HS2.out]), HI3⟩, by first | omega | (simp [intOf]; omega)⟩
        · have hd2 : decide ((0 : Int) < (m : Int)) = false := decide_eq_false (by omega)
          have hs := HS.out
          rw [if_neg (by omega)] at hs
          have HS2 := Lib.hid hs
          clear hs
          go_wp2
          exact ⟨⟨k + 1, _, by omega, by simp, Lib.hid (by rw [← HST.out, HS2.out]), HI2⟩, by first | omega | (simp [intOf]; omega)⟩
      · have hd2 : (E == 0) = false := by simpa using hE
        have hs := HS.out
        rw [if_neg (fun h => hE h.1)] at hs
        have HS2 := Lib.hid hs
        clear hs hE
        go_wp2
        exact ⟨⟨k + 1, _, by omega, by simp, Lib.hid (by rw [← HST.out, HS2.out]), HI2⟩, by first | omega | (simp [intOf]; omega)⟩
    · obtain rfl : k = n := by omega
      have hd : decide ((k : Int) < (k : Int)) = false := decide_eq_false (by omega)
      have hdr := HKM.out
      rw [List.drop_eq_nil_of_le (by have := HN.out; omega), cksM] at hdr
      have HMM := Lib.hid hdr
      clear hdr
      go_upto_region 11 with fail
      have hI0 := Below.refl wr.heap.size wr
      have b1 : wr.cell? ⟨w.heap.size, 1, none⟩ = some (.int .i64 T.l) := HI.out.c 1 _ rfl
      have b2 : wr.cell? ⟨w.heap.size, 2, none⟩ = some (.int .i64 T.c) := HI.out.c 2 _ rfl
      have b3 : wr.cell? ⟨w.heap.size, 3, none⟩ = some (.bool T.r) := HI.out.c 3 _ rfl
      have b4 : wr.cell? ⟨w.heap.size, 4, none⟩ = some (.bool T.a) := HI.out.c 4 _ rfl
      have b5 : wr.cell? ⟨w.heap.size, 5, none⟩ = some (.bool T.s) := HI.out.c 5 _ rfl
      have b6 : wr.cell? ⟨w.heap.size, 6, none⟩ = some (.bool T.g) := HI.out.c 6 _ rfl
      have HNEW := Lib.hid (fun (wb : Nat) (W : World) (hb : Below wr.heap.size wr W) (hw : Pw wb wh0 W) => HK.out.new mb mbb pb wb M T ⟨pub, sec, [], [], [], []⟩ wh0 F G W (HI.out.m.below hb) HT.out HRoom.out.s ((PO.frm _ _).below HI.out.p hb) wh0_may hw)
      have HQE := Lib.hid (show (⟨M, T, ⟨pub, sec, [], [], [], []⟩, wh0, 0⟩ : Bs) = sq from by rw [HSQ.out, HMM.out]; rfl)
      rw [HQE.out] at HNEW
      unfold tmVal at HNEW
      have HBW := Lib.hid HI.out.b
      clear HI HRoom HMM HKM c0 hlt HCK HV
      refine wp_region_planR 11 (fun W => W.cell? ⟨w.heap.size, 1, none⟩ = some (.int .i64 T.l) ∧ W.cell? ⟨w.heap.size, 2, none⟩ = some (.int .i64 T.c) ∧ W.cell? ⟨w.heap.size, 3, none⟩ = some (.bool T.r) ∧ W.cell? ⟨w.heap.size, 4, none⟩ = some (.bool T.a) ∧ W.cell? ⟨w.heap.size, 5, none⟩ = some (.bool T.s) ∧ W.cell? ⟨w.heap.size, 6, none⟩ = some (.bool T.g) ∧ Below wr.heap.size wr W)
        [.val (.pointer (some ⟨mb, 0, none⟩)), .val (.pointer (some ⟨w.heap.size, 1, none⟩)), .val (.agg #[.int .i64 T.l, .int .i64 T.c, .bool T.r, .bool T.a, .bool T.s, .bool T.g]), .val (.pointer (some ⟨pb, 0, none⟩)), kWh, kBus BO sq,
          .fn [5] fstV, .fn [6] extr0, .val (.int .i64 0), .fn [7] fstV, .val (.int .i64 0)]
        (by kernel_rfl) (by kernel_rfl) (by kernel_rfl) (by kernel_rfl) (by kernel_rfl) (fun W w1 h hb => ⟨kc hb h.1, kc hb h.2.1, kc hb h.2.2.1, kc hb h.2.2.2.1, kc hb h.2.2.2.2.1, kc hb h.2.2.2.2.2.1, h.2.2.2.2.2.2.trans (hb.mono h.2.2.2.2.2.2.size)⟩) ?_ ?_ ?_
      · intro k hk
        simp only [List.mem_cons, List.not_mem_nil, or_false] at hk
        rcases hk with rfl | rfl | rfl | rfl | rfl | rfl | rfl | rfl | rfl | rfl | rfl <;> first | exact trivial | exact kWh_fine | exact kBus_fine HK.out _
      · exact ⟨by go_simp, by go_simp, by go_simp, by go_simp, by go_simp, by go_simp, Below.drew hI0⟩
      (try simp only [List.append_eq, List.cons_append, List.nil_append, List.toList_toArray, List.take_succ_cons, List.take_zero, List.drop_succ_cons, List.drop_zero])
      (iterate 4 (refine PlanR.val ?_ ?_ ?_; (· rfl); (· (intro W hSw; (try dsimp only at hSw); go_simp; all_goals (first | (with_reducible rfl) | (constructor <;> (with_reducible rfl))))); intro _ _; (try simp only [Act.put, List.setIfInBounds_toArray, List.set_cons_zero, List.set_cons_succ])))
      refine PlanR.any ?_ ?_ ?_
      · rfl
      · intro W hSw _
        (try dsimp only at hSw)
        go_simp
        refine ⟨rfl, (wnew_c W).mono ?_⟩
        rintro _ u ⟨wb, rfl, hw, hwl, hb⟩
        exact ⟨_, rfl, hb, wb, rfl, hw, hwl⟩
      rintro ⟨wv, lo1, hi1⟩ hok1
      (try simp only [Act.put, List.setIfInBounds_toArray, List.set_cons_zero, List.set_cons_succ])
      refine PlanR.any ?_ ?_ ?_
      · rfl
      · intro W hSw hKn
        obtain ⟨wb, hwv, hw, -⟩ : ∃ wb, wv = .pointer (some ⟨wb, 0, none⟩) ∧ Pw wb wh0 W ∧ lo1 ≤ wb := hKn 4 (by decide) (by kernel_rfl)
        subst hwv
        (try dsimp only at hSw)
        go_simp
        refine ⟨rfl, (HNEW.out wb W hSw.2.2.2.2.2.2 hw).mono ?_⟩
        rintro _ u ⟨bb, F4, G4, rfl, ho, hg, hl, hb4⟩
        exact ⟨_, rfl, hb4, by first | exact ⟨bb, F4, G4, rfl, ho, hg, hl⟩ | exact ⟨bb, rfl, F4, G4, ho, hg, hl⟩ | exact ⟨bb, rfl, F4, ho, G4, hg, hl⟩ | exact ⟨bb, rfl, F4, G4, ho, hg, hl⟩⟩
      rintro ⟨_, lo2, hi2⟩ ⟨bv, rfl⟩
      (try simp only [Act.put, List.setIfInBounds_toArray, List.set_cons_zero, List.set_cons_succ])
      (refine PlanR.fn (v := .tuple #[bv, .int .i64 0]) ?_ ?_ ?_ ?_; (· rfl); (· rfl); (· (intro W hSw; go_simp; all_goals (first | (with_reducible rfl) | (constructor <;> (with_reducible rfl))))); intro _ _; (try simp only [Act.put, List.setIfInBounds_toArray, List.set_cons_zero, List.set_cons_succ]))
      (refine PlanR.fn (v := bv) ?_ ?_ ?_ ?_; (· rfl); (· rfl); (· (intro W hSw; go_simp; all_goals (first | (with_reducible rfl) | (constructor <;> (with_reducible rfl))))); intro _ _; (try simp only [Act.put, List.setIfInBounds_toArray, List.set_cons_zero, List.set_cons_succ]))
      (refine PlanR.val ?_ ?_ ?_; (· rfl); (· (intro W hSw; (try dsimp only at hSw); go_simp; all_goals (first | (with_reducible rfl) | (constructor <;> (with_reducible rfl))))); intro _ _; (try simp only [Act.put, List.setIfInBounds_toArray, List.set_cons_zero, List.set_cons_succ]))
      (refine PlanR.fn (v := bv) ?_ ?_ ?_ ?_; (· rfl); (· rfl); (· (intro W hSw; go_simp; all_goals (first | (with_reducible rfl) | (constructor <;> (with_reducible rfl))))); intro _ _; (try simp only [Act.put, List.setIfInBounds_toArray, List.set_cons_zero, List.set_cons_succ]))
      (refine PlanR.val ?_ ?_ ?_; (· rfl); (· (intro W hSw; (try dsimp only at hSw); go_simp; all_goals (first | (with_reducible rfl) | (constructor <;> (with_reducible rfl))))); intro _ _; (try simp only [Act.put, List.setIfInBounds_toArray, List.set_cons_zero, List.set_cons_succ]))
      refine PlanR.done ?_
      intro u5 GG
      have hB5 : Below wr.heap.size wr u5 := GG.s.2.2.2.2.2.2
      obtain ⟨bb, F4, G4, hbv, ho, hg, hl⟩ : ∃ bb F4 G4, (Value.tuple #[bv, .int .i64 0]) = .tuple #[.pointer (some ⟨bb, 0, none⟩), .int .i64 0] ∧ BO bb sq F4 G4 u5 ∧ (∀ k, G4 k → lo2 ≤ k) ∧ lo2 ≤ bb := (GG.each 5 (by decide) rfl).1
      have hlo : wr.heap.size ≤ lo2 := (GG.each 5 (by decide) rfl).2.1
      obtain rfl : bv = .pointer (some ⟨bb, 0, none⟩) := by simpa using hbv
      have HEND := Lib.hid (And.intro ho (And.intro hg (And.intro hl (And.intro hlo (Below.trans HBW.out (hB5.mono HBW.out.size))))))
      have hzr := HBW.out.size
      clear ho hg hl hlo hbv GG hB5 hok1
      go_wp2
      go_ret
      exact ⟨bb, F4, G4, rfl, HEND.out.1, fun k hk => by have := HEND.out.2.1 k hk; have := HEND.out.2.2.2.1; omega, by have := HEND.out.2.2.1; have := HEND.out.2.2.2.1; omega, HEND.out.2.2.2.2⟩
end Go.Proofs.YtcnejgilmciljaaGreatDoor
