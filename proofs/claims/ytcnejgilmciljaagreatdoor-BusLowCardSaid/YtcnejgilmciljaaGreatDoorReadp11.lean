/-
  The program's next, of each kind.
  The program's Read.
-/
import Derived.Test.YtcnejgilmciljaaGreatDoorLast11
set_option linter.unusedSimpArgs false
set_option linter.unusedVariables false
namespace Go.Proofs.YtcnejgilmciljaaGreatDoor
open Go.RowKit Go.PlainAid

theorem holds_tailG {α : Type} {enc : α → List Value} {m : Nat} {w : World} {g o n c k : Nat} {x : α} {r : List α} (hn : r.length = n) (h : ∀ j (z : α), (x :: r)[j]? = some z → ∀ i u, (enc z)[i]? = some u → w.cell? ⟨g, o + j * m + i, none⟩ = some u) (hk : n ≤ k) : HoldsW enc m w (.slice (some ⟨g, o + m, none⟩) n k) r := by
  subst hn
  refine .inr ⟨g, o + m, k, rfl, hk, fun j z hz i u hu => ?_⟩
  have := h (j + 1) z (by simpa using hz) i u hu
  rw [show o + (j + 1) * m + i = o + m + j * m + i by rw [Nat.add_mul, Nat.one_mul]; omega] at this
  exact this
theorem holds_noneG {α : Type} {enc : α → List Value} {m : Nat} {w : World} {p : Option Addr} {n c : Nat} {r : List α} (h0 : n = 0) (hn : r.length = n) : HoldsW enc m w (.slice p n c) r := by
  subst h0
  exact .inl ⟨⟨_, _, rfl⟩, List.length_eq_zero_iff.1 hn⟩
set_option maxRecDepth 100000 in
set_option maxHeartbeats 1000000 in
/-- What comes in now; what is left lies where it lay. -/
theorem next_b (pb o : Nat) (F : Nat → Prop) (hF : F pb) (l : List (Int)) (v : Value) (w : World) (h : Inq bE 1 pb o F v l w) (d : Int) :
    Calls Tryz.prog 109 #[.pointer (some ⟨pb, o, none⟩), (.int .u8 d)] w fun e w' => e = .returned (.int .u8 (l.headD d)) ∧ Ot pb o w w' ∧ ∃ v', w'.cell? ⟨pb, o, none⟩ = some v' ∧ HoldsW bE 1 w v' l.tail ∧ (l.tail ≠ [] → v'.ownBlock = v.ownBlock) := by
  obtain ⟨p0, c0, rfl⟩ := h.h.form
  have hp_0 := h.c
  have hf_0 := h.f
  have hlt := klt hp_0
  have HO := Lib.hid (Ot.refl (w := w) hlt o)
  by_cases hl : l = []
  · subst hl
    dsimp only [List.length_nil] at hp_0
    have HV := Lib.hid (And.intro (by simpa using hp_0) h.h)
    clear h
    go_enter Tryz.func109, Tryz.ntmps109
    go_wp2
    refine bodyPost_ret (v := (.int .u8 d)) (by simp [results, Tryz.results109, go_sem] <;> first | done | rfl) rfl ?_
    refine ⟨rfl, ?_, .slice p0 0 c0, by go_simp, HV.out.2, fun h => absurd rfl h⟩
    with_reducible
      repeat (first | exact HO.out | refine Ot.setNew ?_ _ _ (by first | go_size | (dsimp only; omega) | (simp; omega)) | refine Ot.setOwn ?_ _ | refine Ot.alloc ?_ _)
  · obtain ⟨V, r, hr⟩ : ∃ x r, l = x :: r := by cases l with | nil => exact absurd rfl hl | cons x r => exact ⟨x, r, rfl⟩
    obtain ⟨g, o', cap, e, hcap, hcell⟩ := h.h.some (by rw [hr]; simp)
    obtain ⟨rfl, -, rfl⟩ := Value.slice.inj e
    have hnf := h.n hl
    subst hr
    obtain ⟨n, hn⟩ : ∃ n, r.length = n := ⟨_, rfl⟩
    rw [List.length_cons, hn] at hp_0 hcap
    rw [List.length_cons, hn]
    have hx0 := hcell 0 _ rfl 0 _ rfl
    rw [Nat.zero_mul, Nat.add_zero] at hx0
    (try dsimp only at hx0)
    have hgl := klt hx0
    have hgr : ¬ g = pb := fun e => hnf g rfl (by rw [e]; exact hF)
    have hgr2 : ¬ pb = g := fun e => hgr e.symm
    obtain ⟨q1, q2, q3, q4, q5⟩ := ap0 hlt
    obtain ⟨q6, q7, q8, q9, q10⟩ := ap0 hgl
    have HT := Lib.hid (fun k hk => holds_tailG (o := o') (c := 0) (k := k) hn hcell hk)
    have hin : (0 : Int) ≤ 0 ∧ (0 : Int) < ((n + 1 : Nat) : Int) := by omega
    have hin1 : (1 : Int) ≤ ((n + 1 : Nat) : Int) := by omega
    have hin2 : (0 : Int) < ((n + 1 : Nat) : Int) := by omega
    have hin3 : ¬ (((n + 1 : Nat) : Int) = 0) := by omega
    have HC := Lib.hid hcap
    have HNN := Lib.hid hn
    clear h hl hcell hnf hn e
    go_enter Tryz.func109, Tryz.ntmps109
    go_wp2
    all_goals
      refine bodyPost_ret (v := (.int .u8 V)) (by simp [results, Tryz.results109, go_sem] <;> first | done | rfl) rfl ?_
      first
      | (refine ⟨rfl, ?_, .slice (some ⟨g, o' + 1, none⟩) n (c0 - 1), ?_, ?_, fun _ => rfl⟩
         · with_reducible
             repeat (first | exact HO.out | refine Ot.setNew ?_ _ _ (by first | go_size | (dsimp only; omega) | (simp; omega)) | refine Ot.setOwn ?_ _ | refine Ot.alloc ?_ _)
         · go_simp; first | done | rfl
         · exact HT.out _ (by have := HC.out; omega))
      | (refine ⟨rfl, ?_, .slice (some ⟨g, o', none⟩) n 0, ?_, ?_, fun _ => rfl⟩
         · with_reducible
             repeat (first | exact HO.out | refine Ot.setNew ?_ _ _ (by first | go_size | (dsimp only; omega) | (simp; omega)) | refine Ot.setOwn ?_ _ | refine Ot.alloc ?_ _)
         · go_simp; first | done | rfl
         · exact holds_noneG (by have := HC.out; omega) HNN.out)
set_option maxRecDepth 100000 in
set_option maxHeartbeats 1000000 in
/-- What comes in now; what is left lies where it lay. -/
theorem next_k (pb o : Nat) (F : Nat → Prop) (hF : F pb) (l : List (Int × Int)) (v : Value) (w : World) (h : Inq kE 2 pb o F v l w) (d : Int × Int) :
    Calls Tryz.prog 110 #[.pointer (some ⟨pb, o, none⟩), .agg #[.int .u8 d.1, .int .u8 d.2]] w fun e w' => e = .returned (.agg #[.int .u8 (l.headD d).1, .int .u8 (l.headD d).2]) ∧ Ot pb o w w' ∧ ∃ v', w'.cell? ⟨pb, o, none⟩ = some v' ∧ HoldsW kE 2 w v' l.tail ∧ (l.tail ≠ [] → v'.ownBlock = v.ownBlock) := by
  obtain ⟨p0, c0, rfl⟩ := h.h.form
  have hp_0 := h.c
  have hf_0 := h.f
  have hlt := klt hp_0
  have HO := Lib.hid (Ot.refl (w := w) hlt o)
  by_cases hl : l = []
  · subst hl
    dsimp only [List.length_nil] at hp_0
    have HV := Lib.hid (And.intro (by simpa using hp_0) h.h)
    clear h
    go_enter Tryz.func110, Tryz.ntmps110
    go_wp2
    refine bodyPost_ret (v := (.agg #[.int .u8 d.1, .int .u8 d.2])) (by simp [results, Tryz.results110, go_sem] <;> first | done | rfl) rfl ?_
    refine ⟨rfl, ?_, .slice p0 0 c0, by go_simp, HV.out.2, fun h => absurd rfl h⟩
    with_reducible
      repeat (first | exact HO.out | refine Ot.setNew ?_ _ _ (by first | go_size | (dsimp only; omega) | (simp; omega)) | refine Ot.setOwn ?_ _ | refine Ot.alloc ?_ _)
  · obtain ⟨⟨V, Z⟩, r, hr⟩ : ∃ x r, l = x :: r := by cases l with | nil => exact absurd rfl hl | cons x r => exact ⟨x, r, rfl⟩
    obtain ⟨g, o', cap, e, hcap, hcell⟩ := h.h.some (by rw [hr]; simp)
    obtain ⟨rfl, -, rfl⟩ := Value.slice.inj e
    have hnf := h.n hl
    subst hr
    obtain ⟨n, hn⟩ : ∃ n, r.length = n := ⟨_, rfl⟩
    rw [List.length_cons, hn] at hp_0 hcap
    rw [List.length_cons, hn]
    have hx0 := hcell 0 _ rfl 0 _ rfl
    have hx1 := hcell 0 _ rfl 1 _ rfl
    rw [Nat.zero_mul, Nat.add_zero] at hx1
    (try dsimp only at hx1)
    rw [Nat.zero_mul, Nat.add_zero] at hx0
    (try dsimp only at hx0)
    have hgl := klt hx0
    have hgr : ¬ g = pb := fun e => hnf g rfl (by rw [e]; exact hF)
    have hgr2 : ¬ pb = g := fun e => hgr e.symm
    obtain ⟨q1, q2, q3, q4, q5⟩ := ap0 hlt
    obtain ⟨q6, q7, q8, q9, q10⟩ := ap0 hgl
    have HT := Lib.hid (fun k hk => holds_tailG (o := o') (c := 0) (k := k) hn hcell hk)
    have hin : (0 : Int) ≤ 0 ∧ (0 : Int) < ((n + 1 : Nat) : Int) := by omega
    have hin1 : (1 : Int) ≤ ((n + 1 : Nat) : Int) := by omega
    have hin2 : (0 : Int) < ((n + 1 : Nat) : Int) := by omega
    have hin3 : ¬ (((n + 1 : Nat) : Int) = 0) := by omega
    have HC := Lib.hid hcap
    have HNN := Lib.hid hn
    clear h hl hcell hnf hn e
    go_enter Tryz.func110, Tryz.ntmps110
    go_wp2
    all_goals
      refine bodyPost_ret (v := (.agg #[.int .u8 V, .int .u8 Z])) (by simp [results, Tryz.results110, go_sem] <;> first | done | rfl) rfl ?_
      first
      | (refine ⟨rfl, ?_, .slice (some ⟨g, o' + 2, none⟩) n (c0 - 1), ?_, ?_, fun _ => rfl⟩
         · with_reducible
             repeat (first | exact HO.out | refine Ot.setNew ?_ _ _ (by first | go_size | (dsimp only; omega) | (simp; omega)) | refine Ot.setOwn ?_ _ | refine Ot.alloc ?_ _)
         · go_simp; first | done | rfl
         · exact HT.out _ (by have := HC.out; omega))
      | (refine ⟨rfl, ?_, .slice (some ⟨g, o', none⟩) n 0, ?_, ?_, fun _ => rfl⟩
         · with_reducible
             repeat (first | exact HO.out | refine Ot.setNew ?_ _ _ (by first | go_size | (dsimp only; omega) | (simp; omega)) | refine Ot.setOwn ?_ _ | refine Ot.alloc ?_ _)
         · go_simp; first | done | rfl
         · exact holds_noneG (by have := HC.out; omega) HNN.out)
end Go.Proofs.YtcnejgilmciljaaGreatDoor
set_option linter.unusedSimpArgs false
set_option linter.unusedVariables false
namespace Go.Proofs.YtcnejgilmciljaaGreatDoor
open Go.RowKit Go.PlainAid

theorem Ot.trans {rb o : Nat} {w u v : World} (h : Ot rb o w u) (k : Ot rb o u v) : Ot rb o w v :=
  ⟨h.lt, h.fr.trans k.fr (fun _ _ e => e), fun j hj => (k.ot j hj).trans (h.ot j hj), fun j => (k.fz j).trans (h.fz j)⟩
theorem holds_back {α : Type} {enc : α → List Value} {k : Nat} {w W : World} {v : Value} {l : List α} (hb : Below w.heap.size w W) (h : HoldsW enc k W v l) (hlt : l ≠ [] → ∀ b, v.ownBlock = some b → b < w.heap.size) : HoldsW enc k w v l := by
  rcases h with h | ⟨g, o, cap, rfl, hc, h⟩
  · exact .inl h
  · refine .inr ⟨g, o, cap, rfl, hc, fun j x hx i y hy => ?_⟩
    have hg := hlt (by intro e; subst e; simp at hx) g rfl
    exact (hb.cell (p := ⟨g, o + j * k + i, none⟩) hg).symm.trans (h j x hx i y hy)
/-- What a call leaves of ports. -/
def PEnd (pb : Nat) (S' : Po) (F G : Nat → Prop) (v : Value) (w : World) : Ending → World → Prop := fun e w' => e = .returned v ∧ ∃ F' G', PO pb S' F' G' w' ∧ Mv F G F' G' w w'
def readV (S : Po) (reg : Int) : Value := .tuple #[.agg #[.int .u8 (rdPo S reg).1, .int .u8 (rdPo S reg).2.1], .int .i64 (rdPo S reg).2.2]
section
variable {pb : Nat} {S S' : Po} {F G : Nat → Prop} {x y a b c x' y' v : Value} {w W u : World}
theorem pend_same (h : PO pb S F G w) (hb : Below w.heap.size w u) (e : S' = S) : ∃ F' G', PO pb S' F' G' u ∧ Mv F G F' G' w u := by
  subst e
  exact ⟨F, G, (PO.frm _ _).below h hb, Mv.ofBelow _ _ hb⟩
theorem po_setP (h : Pp pb S x y a b c w) (hW : Below w.heap.size w W) (hq : Ot pb 0 w u) (hc : u.cell? ⟨pb, 0, none⟩ = some x') (hx : HoldsW bE 1 W x' S.pub.tail) (hn : S.pub.tail ≠ [] → x'.ownBlock = x.ownBlock) :
    ∃ F' G', PO pb ⟨S.pub.tail, S.sec, S.out, S.kept, S.cyc, S.told⟩ F' G' u ∧ Mv (foot pb (rP S a b c)) (hang (foot pb (rP S a b c)) (some_ S.pub) (some_ S.sec) x y) F' G' w u := by
  have hne : S.pub.tail ≠ [] → S.pub ≠ [] := fun h e => h (by rw [e]; rfl)
  have hlt : S.pub.tail ≠ [] → ∀ b, x'.ownBlock = some b → b < w.heap.size := fun hl b hb => holds_old h.p.h bE_len (by omega) (hne hl) b (by rw [← hn hl]; exact hb)
  have hx0 := holds_back hW hx hlt
  refine ⟨_, _, ⟨x', y, a, b, c, h.setP hq _ hc hx0 (fun hl k hk => h.p.n (hne hl) k (by rw [← hn hl]; exact hk)), rfl, rfl⟩, hq.fr.mono (fun b _ e => .inl e), fun b hb => .inl hb, fun b hb => .inl ?_⟩
  rcases hb with hb | ⟨h1, h2⟩ | h1
  · exact .inl hb
  · have h3 := some_iff.1 h1
    exact .inr (.inl ⟨some_iff.2 (hne h3), by rw [← hn h3]; exact h2⟩)
  · exact .inr (.inr h1)
theorem po_setS (h : Pp pb S x y a b c w) (hW : Below w.heap.size w W) (hq : Ot pb 1 w u) (hc : u.cell? ⟨pb, 1, none⟩ = some y') (hx : HoldsW kE 2 W y' (secT S.sec).tail) (hn : (secT S.sec).tail ≠ [] → y'.ownBlock = y.ownBlock) :
    ∃ F' G', PO pb ⟨S.pub, S.sec.tail, S.out, S.kept, S.cyc, S.told⟩ F' G' u ∧ Mv (foot pb (rP S a b c)) (hang (foot pb (rP S a b c)) (some_ S.pub) (some_ S.sec) x y) F' G' w u := by
  rw [← secT_tail] at hx hn
  have hne : S.sec.tail ≠ [] → S.sec ≠ [] := fun h e => h (by rw [e]; rfl)
  have hn : S.sec.tail ≠ [] → y'.ownBlock = y.ownBlock := fun h => hn (secT_nil.2 h)
  have hlt : secT S.sec.tail ≠ [] → ∀ b, y'.ownBlock = some b → b < w.heap.size := fun hl b hb => holds_old h.s.h kE_len (by omega) (secT_nil.2 (hne (secT_nil.1 hl))) b (by rw [← hn (secT_nil.1 hl)]; exact hb)
  have hx0 := holds_back hW hx hlt
  refine ⟨_, _, ⟨x, y', a, b, c, h.setS hq _ hc hx0 (fun hl k hk => h.s.n (secT_nil.2 (hne hl)) k (by rw [← hn hl]; exact hk)), rfl, rfl⟩, hq.fr.mono (fun b _ e => .inl e), fun b hb => .inl hb, fun b hb => .inl ?_⟩
  rcases hb with hb | h1 | ⟨h1, h2⟩
  · exact .inl hb
  · exact .inr (.inl h1)
  · have h3 := some_iff.1 h1
    exact .inr (.inr ⟨some_iff.2 (hne h3), by rw [← hn h3]; exact h2⟩)
end
set_option maxRecDepth 100000 in
theorem readp_nil (reg : Int) (w : World) : Calls Tryz.prog 104 #[.pointer none, .int .i64 reg] w fun e w' => e = .returned (.tuple #[.agg #[.int .u8 0, .int .u8 0], .int .i64 2]) ∧ Below w.heap.size w w' := by
  go_enter Tryz.func104, Tryz.ntmps104
  go_wp2
  refine bodyPost_ret (v := .tuple #[.agg #[.int .u8 0, .int .u8 0], .int .i64 2]) (by simp [results, Tryz.results104, go_sem] <;> first | done | rfl) rfl ?_
  exact ⟨rfl, by go_grown⟩
theorem secT_head (l : List Int) : (secT l).headD (0, 255) = (l.headD 0, 255) := by cases l <;> rfl
theorem lastK_log {S : Po} (h : S.cyc.length = S.told.length) : lastB S.log = ((lastB S.log).1, lastI S.told) := by
  have hz : S.log.length = S.told.length := by unfold Po.log; rw [List.length_zip, h, Nat.min_self]
  by_cases h0 : S.told.length = 0
  · have e1 : S.told = [] := List.length_eq_zero_iff.1 h0
    have e2 : S.log = [] := List.length_eq_zero_iff.1 (by omega)
    rw [e1, e2]; rfl
  · obtain ⟨m, hm⟩ : ∃ m, S.told.length = m + 1 := ⟨S.told.length - 1, by omega⟩
    rw [lastK_snoc S.log m (by omega), lastI_snoc S.told m hm]
    simp [Po.log]
set_option maxRecDepth 100000 in
set_option maxHeartbeats 4000000 in
theorem readp_0 (pb : Nat) (S : Po) (F G : Nat → Prop) (w : World) (h : PO pb S F G w) :
    Calls Tryz.prog 104 #[.pointer (some ⟨pb, 0, none⟩), .int .i64 0] w (PEnd pb (readS S 0) F G (readV S 0) w) := by
  obtain ⟨x, y, a, b, c, h, rfl, rfl⟩ := h
  have hlt := h.hold.lt
  have HS := Lib.hid (show readS S 0 = ⟨S.pub.tail, S.sec, S.out, S.kept, S.cyc, S.told⟩ from by unfold readS; rw [if_pos rfl])
  have HV := Lib.hid (show readV S 0 = .tuple #[.agg #[.int .u8 (S.pub.headD 0), .int .u8 0], .int .i64 0] from by unfold readV rdPo; rw [if_pos rfl])
  have HN := Lib.hid (fun W (hW : Below w.heap.size w W) => next_b pb 0 _ (Or.inl rfl) S.pub x W (h.p.below hW) 0)
  have HP := Lib.hid h
  have HO := Lib.hid (Ot.refl (w := w) hlt 0)
  clear h
  go_enter Tryz.func104, Tryz.ntmps104
  go_wp2_with fail
  refine (HN.out _ (by go_grown)).mono ?_
  rintro _ u ⟨rfl, hq, x', hc, hx, hn⟩
  have hz := hq.fr.size
  simp only [World.size_alloc] at hz
  have s0 : u.cell? ⟨w.heap.size, 0, none⟩ = some (.int .u8 0) := hq.fr.cell (by go_simp; first | done | rfl) (by omega)
  have s1 : u.cell? ⟨w.heap.size, 1, none⟩ = some (.int .u8 0) := hq.fr.cell (by go_simp; first | done | rfl) (by omega)
  have f0 : u.frozen? ⟨w.heap.size, 0, none⟩ = false := hq.fr.frozen (by simp) (by go_simp) (by omega)
  have f1 : u.frozen? ⟨w.heap.size, 1, none⟩ = false := hq.fr.frozen (by simp) (by go_simp) (by omega)
  have hlu : pb < u.heap.size := by omega
  have hws : w.heap.size < u.heap.size := by omega
  have hn1 : ¬ pb = w.heap.size := by omega
  have hn2 : ¬ w.heap.size = pb := by omega
  have HQ := Lib.hid (Ot.trans (HO.out.alloc _) hq)
  have HX := Lib.hid hx
  have HN2 := Lib.hid hn
  have HB := Lib.hid (show Below w.heap.size w (w.alloc (.cells #[.int .u8 0, .int .u8 0] 49)) from (Below.refl _ _).alloc (Nat.le_refl _) _)
  clear hq hx hn hz
  go_wp2
  refine bodyPost_ret (v := .tuple #[.agg #[.int .u8 (S.pub.headD 0), .int .u8 0], .int .i64 0]) (by simp [results, Tryz.results104, go_sem, s0, s1] <;> first | done | rfl) rfl ?_
  refine ⟨by rw [HV.out], ?_⟩
  rw [HS.out]
  refine po_setP HP.out HB.out (x' := x') ?_ ?_ HX.out HN2.out
  · with_reducible
      repeat (first | exact HQ.out | refine Ot.setNew ?_ _ _ (by first | go_size | (dsimp only; omega) | (simp; omega)) | refine Ot.alloc ?_ _)
  · go_simp; first | done | exact hc
set_option maxRecDepth 100000 in
set_option maxHeartbeats 4000000 in
theorem readp_1 (pb : Nat) (S : Po) (F G : Nat → Prop) (w : World) (h : PO pb S F G w) :
    Calls Tryz.prog 104 #[.pointer (some ⟨pb, 0, none⟩), .int .i64 1] w (PEnd pb (readS S 1) F G (readV S 1) w) := by
  obtain ⟨x, y, a, b, c, h, rfl, rfl⟩ := h
  have hlt := h.hold.lt
  have HS := Lib.hid (show readS S 1 = ⟨S.pub, S.sec.tail, S.out, S.kept, S.cyc, S.told⟩ from by unfold readS; rw [if_neg (by decide), if_pos rfl])
  have HV := Lib.hid (show readV S 1 = .tuple #[.agg #[.int .u8 (S.sec.headD 0), .int .u8 255], .int .i64 0] from by unfold readV rdPo; rw [if_neg (by decide), if_pos rfl])
  have HN := Lib.hid (fun W (hW : Below w.heap.size w W) => next_k pb 1 _ (Or.inl rfl) (secT S.sec) y W (h.s.below hW) (0, 255))
  rw [secT_head] at HN
  have HP := Lib.hid h
  have HO := Lib.hid (Ot.refl (w := w) hlt 1)
  clear h
  go_enter Tryz.func104, Tryz.ntmps104
  go_wp2_with fail
  refine (HN.out _ (by go_grown)).mono ?_
  rintro _ u ⟨rfl, hq, x', hc, hx, hn⟩
  have hz := hq.fr.size
  simp only [World.size_alloc] at hz
  have s0 : u.cell? ⟨w.heap.size, 0, none⟩ = some (.int .u8 0) := hq.fr.cell (by go_simp; first | done | rfl) (by omega)
  have s1 : u.cell? ⟨w.heap.size, 1, none⟩ = some (.int .u8 0) := hq.fr.cell (by go_simp; first | done | rfl) (by omega)
  have f0 : u.frozen? ⟨w.heap.size, 0, none⟩ = false := hq.fr.frozen (by simp) (by go_simp) (by omega)
  have f1 : u.frozen? ⟨w.heap.size, 1, none⟩ = false := hq.fr.frozen (by simp) (by go_simp) (by omega)
  have hlu : pb < u.heap.size := by omega
  have hws : w.heap.size < u.heap.size := by omega
  have hn1 : ¬ pb = w.heap.size := by omega
  have hn2 : ¬ w.heap.size = pb := by omega
  have HQ := Lib.hid (Ot.trans (HO.out.alloc _) hq)
  have HX := Lib.hid hx
  have HN2 := Lib.hid hn
  have HB := Lib.hid (show Below w.heap.size w (w.alloc (.cells #[.int .u8 0, .int .u8 0] 49)) from (Below.refl _ _).alloc (Nat.le_refl _) _)
  clear hq hx hn hz
  go_wp2
  refine bodyPost_ret (v := .tuple #[.agg #[.int .u8 (S.sec.headD 0), .int .u8 255], .int .i64 0]) (by simp [results, Tryz.results104, go_sem, s0, s1] <;> first | done | rfl) rfl ?_
  refine ⟨by rw [HV.out], ?_⟩
  rw [HS.out]
  refine po_setS HP.out HB.out (y' := x') ?_ ?_ HX.out HN2.out
  · with_reducible
      repeat (first | exact HQ.out | refine Ot.setNew ?_ _ _ (by first | go_size | (dsimp only; omega) | (simp; omega)) | refine Ot.alloc ?_ _)
  · go_simp; first | done | exact hc
set_option maxRecDepth 100000 in
set_option maxHeartbeats 4000000 in
theorem readp_2 (pb : Nat) (S : Po) (F G : Nat → Prop) (w : World) (h : PO pb S F G w) :
    Calls Tryz.prog 104 #[.pointer (some ⟨pb, 0, none⟩), .int .i64 2] w (PEnd pb (readS S 2) F G (readV S 2) w) := by
  have HO := Lib.hid h
  obtain ⟨x, y, a, b, c, h, rfl, rfl⟩ := h
  have hlt := h.hold.lt
  have hlt2 := (ap0 hlt).1
  have HS := Lib.hid (show readS S 2 = S from by unfold readS; rw [if_neg (by decide), if_neg (by decide)])
  have HV := Lib.hid (show readV S 2 = .tuple #[.agg #[.int .u8 (lastI S.out), .int .u8 0], .int .i64 0] from by unfold readV rdPo; rw [if_neg (by decide), if_neg (by decide), if_pos rfl])
  obtain ⟨hc, ho⟩ := h.at0.1
  obtain ⟨p, ca, rfl⟩ := own_form ho
  have HL := Lib.hid (fun W (hW : Below w.heap.size w W) => last_b S.out _ W (own_below ho hW))
  clear h ho
  generalize (lastI S.out) = V at *
  go_enter Tryz.func104, Tryz.ntmps104
  go_wp2_with fail
  refine (HL.out _ (by go_grown)).mono ?_
  rintro _ u ⟨rfl, hb⟩
  have hz := hb.size
  simp only [World.size_alloc] at hz
  have s0 : u.cell? ⟨w.heap.size, 0, none⟩ = some (.int .u8 0) := kc hb (by go_simp; first | done | rfl)
  have s1 : u.cell? ⟨w.heap.size, 1, none⟩ = some (.int .u8 0) := kc hb (by go_simp; first | done | rfl)
  have f0 : u.frozen? ⟨w.heap.size, 0, none⟩ = false := kfz hb (by simp) (by go_simp)
  have f1 : u.frozen? ⟨w.heap.size, 1, none⟩ = false := kfz hb (by simp) (by go_simp)
  have hws : w.heap.size < u.heap.size := by omega
  have hB : Below w.heap.size w u := kb ((Below.refl _ _).alloc (Nat.le_refl _) _) hb
  clear hb hz
  go_wp2
  refine bodyPost_ret (v := .tuple #[.agg #[.int .u8 V, .int .u8 0], .int .i64 0]) (by simp [results, Tryz.results104, go_sem, s0, s1] <;> first | done | rfl) rfl ?_
  exact ⟨by rw [HV.out], pend_same HO.out (by go_grown) HS.out⟩
set_option maxRecDepth 100000 in
set_option maxHeartbeats 4000000 in
theorem readp_3 (pb : Nat) (S : Po) (F G : Nat → Prop) (w : World) (h : PO pb S F G w) :
    Calls Tryz.prog 104 #[.pointer (some ⟨pb, 0, none⟩), .int .i64 3] w (PEnd pb (readS S 3) F G (readV S 3) w) := by
  have HO := Lib.hid h
  obtain ⟨x, y, a, b, c, h, rfl, rfl⟩ := h
  have hlt := h.hold.lt
  have hlt2 := (ap0 hlt).1
  have HS := Lib.hid (show readS S 3 = S from by unfold readS; rw [if_neg (by decide), if_neg (by decide)])
  have HV := Lib.hid (show readV S 3 = .tuple #[.agg #[.int .u8 (lastB S.kept).1, .int .u8 (lastB S.kept).2], .int .i64 0] from by unfold readV rdPo; rw [if_neg (by decide), if_neg (by decide), if_neg (by decide), if_pos rfl])
  obtain ⟨hc, ho⟩ := h.at0.2.1
  obtain ⟨p, ca, rfl⟩ := own_form ho
  have HL := Lib.hid (fun W (hW : Below w.heap.size w W) => last_k S.kept _ W (own_below ho hW))
  clear h ho
  generalize (lastB S.kept).1 = V at *
  generalize (lastB S.kept).2 = T at *
  go_enter Tryz.func104, Tryz.ntmps104
  go_wp2_with fail
  refine (HL.out _ (by go_grown)).mono ?_
  rintro _ u ⟨rfl, hb⟩
  have hz := hb.size
  simp only [World.size_alloc] at hz
  have s0 : u.cell? ⟨w.heap.size, 0, none⟩ = some (.int .u8 0) := kc hb (by go_simp; first | done | rfl)
  have s1 : u.cell? ⟨w.heap.size, 1, none⟩ = some (.int .u8 0) := kc hb (by go_simp; first | done | rfl)
  have f0 : u.frozen? ⟨w.heap.size, 0, none⟩ = false := kfz hb (by simp) (by go_simp)
  have f1 : u.frozen? ⟨w.heap.size, 1, none⟩ = false := kfz hb (by simp) (by go_simp)
  have hws : w.heap.size < u.heap.size := by omega
  have hB : Below w.heap.size w u := kb ((Below.refl _ _).alloc (Nat.le_refl _) _) hb
  clear hb hz
  go_wp2
  refine bodyPost_ret (v := .tuple #[.agg #[.int .u8 V, .int .u8 T], .int .i64 0]) (by simp [results, Tryz.results104, go_sem, s0, s1] <;> first | done | rfl) rfl ?_
  exact ⟨by rw [HV.out], pend_same HO.out (by go_grown) HS.out⟩
set_option maxRecDepth 100000 in
set_option maxHeartbeats 4000000 in
theorem readp_4 (pb : Nat) (S : Po) (F G : Nat → Prop) (w : World) (hcy : S.cyc.length = S.told.length) (h : PO pb S F G w) :
    Calls Tryz.prog 104 #[.pointer (some ⟨pb, 0, none⟩), .int .i64 4] w (PEnd pb (readS S 4) F G (readV S 4) w) := by
  have HO := Lib.hid h
  obtain ⟨x, y, a, b, c, h, rfl, rfl⟩ := h
  have hlt := h.hold.lt
  have hlt2 := (ap0 hlt).1
  have HS := Lib.hid (show readS S 4 = S from by unfold readS; rw [if_neg (by decide), if_neg (by decide)])
  have HV := Lib.hid (show readV S 4 = .tuple #[.agg #[.int .u8 (lastI S.told), .int .u8 0], .int .i64 0] from by unfold readV rdPo; rw [if_neg (by decide), if_neg (by decide), if_neg (by decide), if_neg (by decide), if_pos rfl])
  obtain ⟨hc, ho⟩ := h.at0.2.2
  obtain ⟨p, ca, rfl⟩ := own_form ho
  have HL := Lib.hid (fun W (hW : Below w.heap.size w W) => last_e S.log _ W (own_below ho hW))
  rw [lastK_log hcy] at HL
  dsimp only at HL
  clear h ho
  generalize (lastI S.told) = V at *
  generalize (lastB S.log).1 = V1 at *
  have hfe : ∀ W, (Instr.field 109 (.agg #[.int .i64 V1, .int .u8 V]) 1).run Tryz.prog W = .ok (.int .u8 V) W := fun W => by kernel_rfl
  go_enter Tryz.func104, Tryz.ntmps104
  go_wp2_with fail
  refine (HL.out _ (by go_grown)).mono ?_
  rintro _ u ⟨rfl, hb⟩
  have hz := hb.size
  simp only [World.size_alloc] at hz
  have s0 : u.cell? ⟨w.heap.size, 0, none⟩ = some (.int .u8 0) := kc hb (by go_simp; first | done | rfl)
  have s1 : u.cell? ⟨w.heap.size, 1, none⟩ = some (.int .u8 0) := kc hb (by go_simp; first | done | rfl)
  have f0 : u.frozen? ⟨w.heap.size, 0, none⟩ = false := kfz hb (by simp) (by go_simp)
  have f1 : u.frozen? ⟨w.heap.size, 1, none⟩ = false := kfz hb (by simp) (by go_simp)
  have hws : w.heap.size < u.heap.size := by omega
  have hB : Below w.heap.size w u := kb ((Below.refl _ _).alloc (Nat.le_refl _) _) hb
  clear hb hz
  go_wp2
  refine bodyPost_ret (v := .tuple #[.agg #[.int .u8 V, .int .u8 0], .int .i64 0]) (by simp [results, Tryz.results104, go_sem, s0, s1] <;> first | done | rfl) rfl ?_
  exact ⟨by rw [HV.out], pend_same HO.out (by go_grown) HS.out⟩
set_option maxRecDepth 100000 in
set_option maxHeartbeats 4000000 in
theorem readp_bad (pb : Nat) (S : Po) (F G : Nat → Prop) (reg : Int) (hr : ¬ (0 ≤ reg ∧ reg ≤ 4)) (w : World) (h : PO pb S F G w) :
    Calls Tryz.prog 104 #[.pointer (some ⟨pb, 0, none⟩), .int .i64 reg] w (PEnd pb (readS S reg) F G (readV S reg) w) := by
  have HO := Lib.hid h
  have HS := Lib.hid (show readS S reg = S from by unfold readS; rw [if_neg (by omega), if_neg (by omega)])
  have HV := Lib.hid (show readV S reg = .tuple #[.agg #[.int .u8 0, .int .u8 0], .int .i64 10] from by unfold readV rdPo; rw [if_neg (by omega), if_neg (by omega), if_neg (by omega), if_neg (by omega), if_neg (by omega)])
  have d0 : (reg == 0) = false := by simp; omega
  have d1 : (reg == 1) = false := by simp; omega
  have d2 : (reg == 2) = false := by simp; omega
  have d3 : (reg == 3) = false := by simp; omega
  have d4 : (reg == 4) = false := by simp; omega
  clear h hr
  go_enter Tryz.func104, Tryz.ntmps104
  go_wp2
  refine bodyPost_ret (v := .tuple #[.agg #[.int .u8 0, .int .u8 0], .int .i64 10]) (by simp [results, Tryz.results104, go_sem] <;> first | done | rfl) rfl ?_
  exact ⟨by rw [HV.out], pend_same HO.out (by go_grown) HS.out⟩
theorem pread_c (pb : Nat) (S : Po) (F G : Nat → Prop) (reg : Int) (hcy : S.cyc.length = S.told.length) (w : World) (h : PO pb S F G w) :
    Calls Tryz.prog 104 #[.pointer (some ⟨pb, 0, none⟩), .int .i64 reg] w (PEnd pb (readS S reg) F G (readV S reg) w) := by
  rcases port_cases reg with rfl | rfl | rfl | rfl | rfl | hr
  · exact readp_0 pb S F G w h
  · exact readp_1 pb S F G w h
  · exact readp_2 pb S F G w h
  · exact readp_3 pb S F G w h
  · exact readp_4 pb S F G w hcy h
  · exact readp_bad pb S F G reg (by omega) w h
end Go.Proofs.YtcnejgilmciljaaGreatDoor
