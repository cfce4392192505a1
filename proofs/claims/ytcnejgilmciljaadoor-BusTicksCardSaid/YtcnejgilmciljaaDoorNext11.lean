/-
  The program's next, of each kind.
-/
import Derived.Test.YtcnejgilmciljaaDoorLast11
set_option linter.unusedSimpArgs false
set_option linter.unusedVariables false
namespace Go.Proofs.YtcnejgilmciljaaDoor
open Go.RowKit Go.PlainAid

theorem holds_tailG {α : Type} {enc : α → List Value} {m : Nat} {w : World} {g o n c k : Nat} {x : α} {r : List α} (hn : r.length = n) (h : ∀ j (z : α), (x :: r)[j]? = some z → ∀ i u, (enc z)[i]? = some u → w.cell? ⟨g, o + j * m + i, none⟩ = some u) (hk : n ≤ k) : HoldsW enc m w (.slice (some ⟨g, o + m, none⟩) n k) r := by
  subst hn
  refine .inr ⟨g, o + m, k, rfl, hk, fun j z hz i u hu => ?_⟩
  have := h (j + 1) z (by simpa using hz) i u hu
  rw [show o + (j + 1) * m + i = o + m + j * m + i by rw [Nat.add_mul, Nat.one_mul]; omega] at this
  exact this
theorem holds_noneG {α : Type} {enc : α → List Value} {m : Nat} {w : World} {p : Option Addr} {n c : Nat} {r : List α} (h0 : n = 0) (hn : r.length = n) : HoldsW enc m w (.slice p n c) r := by
  subst h0
  exact .inl ⟨⟨_, _, rfl⟩, List.length_eq_zero_iff.1 hn⟩
set_option maxRecDepth 100000 in
set_option maxHeartbeats 1000000 in
/-- What comes in now; what is left lies where it lay. -/
theorem next_b (pb o : Nat) (F : Nat → Prop) (hF : F pb) (l : List (Int)) (v : Value) (w : World) (h : Inq bE 1 pb o F v l w) (d : Int) :
    Calls Tryd.prog 76 #[.pointer (some ⟨pb, o, none⟩), (.int .u8 d)] w fun e w' => e = .returned (.int .u8 (l.headD d)) ∧ Ot pb o w w' ∧ ∃ v', w'.cell? ⟨pb, o, none⟩ = some v' ∧ HoldsW bE 1 w v' l.tail ∧ (l.tail ≠ [] → v'.ownBlock = v.ownBlock) := by
  obtain ⟨p0, c0, rfl⟩ := h.h.form
  have hp_0 := h.c
  have hf_0 := h.f
  have hlt := klt hp_0
  have HO := Lib.hid (Ot.refl (w := w) hlt o)
  by_cases hl : l = []
  · subst hl
    dsimp only [List.length_nil] at hp_0
    have HV := Lib.hid (And.intro (by simpa using hp_0) h.h)
    clear h
    go_enter Tryd.func76, Tryd.ntmps76
    go_wp2
    refine bodyPost_ret (v := (.int .u8 d)) (by simp [results, Tryd.results76, go_sem] <;> first | done | rfl) rfl ?_
    refine ⟨rfl, ?_, .slice p0 0 c0, by go_simp, HV.out.2, fun h => absurd rfl h⟩
    with_reducible
      repeat (first | exact HO.out | refine Ot.setNew ?_ _ _ (by first | go_size | (dsimp only; omega) | (simp; omega)) | refine Ot.setOwn ?_ _ | refine Ot.alloc ?_ _)
  · obtain ⟨V, r, hr⟩ : ∃ x r, l = x :: r := by cases l with | nil => exact absurd rfl hl | cons x r => exact ⟨x, r, rfl⟩
    obtain ⟨g, o', cap, e, hcap, hcell⟩ := h.h.some (by rw [hr]; simp)
    obtain ⟨rfl, -, rfl⟩ := Value.slice.inj e
    have hnf := h.n hl
    subst hr
    obtain ⟨n, hn⟩ : ∃ n, r.length = n := ⟨_, rfl⟩
    rw [List.length_cons, hn] at hp_0 hcap
    rw [List.length_cons, hn]
    have hx0 := hcell 0 _ rfl 0 _ rfl
    rw [Nat.zero_mul, Nat.add_zero] at hx0
    (try dsimp only at hx0)
    have hgl := klt hx0
    have hgr : ¬ g = pb := fun e => hnf g rfl (by rw [e]; exact hF)
    have hgr2 : ¬ pb = g := fun e => hgr e.symm
    obtain ⟨q1, q2, q3, q4, q5⟩ := ap0 hlt
    obtain ⟨q6, q7, q8, q9, q10⟩ := ap0 hgl
    have HT := Lib.hid (fun k hk => holds_tailG (o := o') (c := 0) (k := k) hn hcell hk)
    have hin : (0 : Int) ≤ 0 ∧ (0 : Int) < ((n + 1 : Nat) : Int) := by omega
    have hin1 : (1 : Int) ≤ ((n + 1 : Nat) : Int) := by omega
    have hin2 : (0 : Int) < ((n + 1 : Nat) : Int) := by omega
    have hin3 : ¬ (((n + 1 : Nat) : Int) = 0) := by omega
    have HC := Lib.hid hcap
    have HNN := Lib.hid hn
    clear h hl hcell hnf hn e
    go_enter Tryd.func76, Tryd.ntmps76
    go_wp2
    all_goals
      refine bodyPost_ret (v := (.int .u8 V)) (by simp [results, Tryd.results76, go_sem] <;> first | done | rfl) rfl ?_
      first
      | (refine ⟨rfl, ?_, .slice (some ⟨g, o' + 1, none⟩) n (c0 - 1), ?_, ?_, fun _ => rfl⟩
         · with_reducible
             repeat (first | exact HO.out | refine Ot.setNew ?_ _ _ (by first | go_size | (dsimp only; omega) | (simp; omega)) | refine Ot.setOwn ?_ _ | refine Ot.alloc ?_ _)
         · go_simp; first | done | rfl
         · exact HT.out _ (by have := HC.out; omega))
      | (refine ⟨rfl, ?_, .slice (some ⟨g, o', none⟩) n 0, ?_, ?_, fun _ => rfl⟩
         · with_reducible
             repeat (first | exact HO.out | refine Ot.setNew ?_ _ _ (by first | go_size | (dsimp only; omega) | (simp; omega)) | refine Ot.setOwn ?_ _ | refine Ot.alloc ?_ _)
         · go_simp; first | done | rfl
         · exact holds_noneG (by have := HC.out; omega) HNN.out)
set_option maxRecDepth 100000 in
set_option maxHeartbeats 1000000 in
/-- What comes in now; what is left lies where it lay. -/
theorem next_k (pb o : Nat) (F : Nat → Prop) (hF : F pb) (l : List (Int × Int)) (v : Value) (w : World) (h : Inq kE 2 pb o F v l w) (d : Int × Int) :
    Calls Tryd.prog 77 #[.pointer (some ⟨pb, o, none⟩), .agg #[.int .u8 d.1, .int .u8 d.2]] w fun e w' => e = .returned (.agg #[.int .u8 (l.headD d).1, .int .u8 (l.headD d).2]) ∧ Ot pb o w w' ∧ ∃ v', w'.cell? ⟨pb, o, none⟩ = some v' ∧ HoldsW kE 2 w v' l.tail ∧ (l.tail ≠ [] → v'.ownBlock = v.ownBlock) := by
  obtain ⟨p0, c0, rfl⟩ := h.h.form
  have hp_0 := h.c
  have hf_0 := h.f
  have hlt := klt hp_0
  have HO := Lib.hid (Ot.refl (w := w) hlt o)
  by_cases hl : l = []
  · subst hl
    dsimp only [List.length_nil] at hp_0
    have HV := Lib.hid (And.intro (by simpa using hp_0) h.h)
    clear h
    go_enter Tryd.func77, Tryd.ntmps77
    go_wp2
    refine bodyPost_ret (v := (.agg #[.int .u8 d.1, .int .u8 d.2])) (by simp [results, Tryd.results77, go_sem] <;> first | done | rfl) rfl ?_
    refine ⟨rfl, ?_, .slice p0 0 c0, by go_simp, HV.out.2, fun h => absurd rfl h⟩
    with_reducible
      repeat (first | exact HO.out | refine Ot.setNew ?_ _ _ (by first | go_size | (dsimp only; omega) | (simp; omega)) | refine Ot.setOwn ?_ _ | refine Ot.alloc ?_ _)
  · obtain ⟨⟨V, Z⟩, r, hr⟩ : ∃ x r, l = x :: r := by cases l with | nil => exact absurd rfl hl | cons x r => exact ⟨x, r, rfl⟩
    obtain ⟨g, o', cap, e, hcap, hcell⟩ := h.h.some (by rw [hr]; simp)
    obtain ⟨rfl, -, rfl⟩ := Value.slice.inj e
    have hnf := h.n hl
    subst hr
    obtain ⟨n, hn⟩ : ∃ n, r.length = n := ⟨_, rfl⟩
    rw [List.length_cons, hn] at hp_0 hcap
    rw [List.length_cons, hn]
    have hx0 := hcell 0 _ rfl 0 _ rfl
    have hx1 := hcell 0 _ rfl 1 _ rfl
    rw [Nat.zero_mul, Nat.add_zero] at hx1
    (try dsimp only at hx1)
    rw [Nat.zero_mul, Nat.add_zero] at hx0
    (try dsimp only at hx0)
    have hgl := klt hx0
    have hgr : ¬ g = pb := fun e => hnf g rfl (by rw [e]; exact hF)
    have hgr2 : ¬ pb = g := fun e => hgr e.symm
    obtain ⟨q1, q2, q3, q4, q5⟩ := ap0 hlt
    obtain ⟨q6, q7, q8, q9, q10⟩ := ap0 hgl
    have HT := Lib.hid (fun k hk => holds_tailG (o := o') (c := 0) (k := k) hn hcell hk)
    have hin : (0 : Int) ≤ 0 ∧ (0 : Int) < ((n + 1 : Nat) : Int) := by omega
    have hin1 : (1 : Int) ≤ ((n + 1 : Nat) : Int) := by omega
    have hin2 : (0 : Int) < ((n + 1 : Nat) : Int) := by omega
    have hin3 : ¬ (((n + 1 : Nat) : Int) = 0) := by omega
    have HC := Lib.hid hcap
    have HNN := Lib.hid hn
    clear h hl hcell hnf hn e
    go_enter Tryd.func77, Tryd.ntmps77
    go_wp2
    all_goals
      refine bodyPost_ret (v := (.agg #[.int .u8 V, .int .u8 Z])) (by simp [results, Tryd.results77, go_sem] <;> first | done | rfl) rfl ?_
      first
      | (refine ⟨rfl, ?_, .slice (some ⟨g, o' + 2, none⟩) n (c0 - 1), ?_, ?_, fun _ => rfl⟩
         · with_reducible
             repeat (first | exact HO.out | refine Ot.setNew ?_ _ _ (by first | go_size | (dsimp only; omega) | (simp; omega)) | refine Ot.setOwn ?_ _ | refine Ot.alloc ?_ _)
         · go_simp; first | done | rfl
         · exact HT.out _ (by have := HC.out; omega))
      | (refine ⟨rfl, ?_, .slice (some ⟨g, o', none⟩) n 0, ?_, ?_, fun _ => rfl⟩
         · with_reducible
             repeat (first | exact HO.out | refine Ot.setNew ?_ _ _ (by first | go_size | (dsimp only; omega) | (simp; omega)) | refine Ot.setOwn ?_ _ | refine Ot.alloc ?_ _)
         · go_simp; first | done | rfl
         · exact holds_noneG (by have := HC.out; omega) HNN.out)
end Go.Proofs.YtcnejgilmciljaaDoor
