/-
  Layer 13's laws: a setup; whether it is not too great.
-/
import Derived.Test.YtcnejgilmciljaaDoorBusK13
set_option linter.unusedSimpArgs false
set_option linter.unusedVariables false
namespace Go.Proofs.YtcnejgilmciljaaDoor
open Go.RowKit Go.PlainAid

/-- Bytes that are loaded at an address, and which bits of all of them are secret. -/
structure Ck where
  a : Int
  l : List Int
  t : Int
/-- A slice that holds such, each with its own bytes, all in blocks below N. -/
def InC (N : Nat) (w : World) (v : Value) (cs : List Ck) : Prop :=
  ((∃ p c, v = .slice p 0 c) ∧ cs = []) ∨ ∃ g o cap, v = .slice (some ⟨g, o, none⟩) cs.length cap ∧ cs.length ≤ cap ∧ g < N ∧ ∀ j (x : Ck), cs[j]? = some x →
    ∃ lv, w.cell? ⟨g, o + j * 3, none⟩ = some (.int .i64 x.a) ∧ w.cell? ⟨g, o + j * 3 + 1, none⟩ = some lv ∧ w.cell? ⟨g, o + j * 3 + 2, none⟩ = some (.int .u8 x.t) ∧ HoldsW bE 1 w lv x.l ∧ (0 < x.l.length → ∀ b, lv.ownBlock = some b → b < N)
theorem InC.form {N : Nat} {w : World} {v : Value} {cs : List Ck} (h : InC N w v cs) : ∃ p c, v = .slice p cs.length c := by
  rcases h with ⟨⟨p, c, rfl⟩, rfl⟩ | ⟨g, o, cap, rfl, _⟩
  · exact ⟨p, c, rfl⟩
  · exact ⟨_, cap, rfl⟩
theorem InC.below {N : Nat} {w u : World} {v : Value} {cs : List Ck} (h : InC N w v cs) (hb : Below w.heap.size w u) : InC N u v cs := by
  rcases h with h | ⟨g, o, cap, e, hc, hg, h⟩
  · exact .inl h
  · exact .inr ⟨g, o, cap, e, hc, hg, fun j x hx => by
      obtain ⟨lv, a0, a1, a2, a6, a7⟩ := h j x hx
      exact ⟨lv, kc hb a0, kc hb a1, kc hb a2, a6.below hb, a7⟩⟩
theorem InC.widen {N N' : Nat} {w : World} {v : Value} {cs : List Ck} (h : InC N w v cs) (hN : N ≤ N') : InC N' w v cs := by
  rcases h with h | ⟨g, o, cap, e, hc, hg, h⟩
  · exact .inl h
  · exact .inr ⟨g, o, cap, e, hc, by omega, fun j x hx => by
      obtain ⟨lv, a0, a1, a2, a6, a7⟩ := h j x hx
      exact ⟨lv, a0, a1, a2, a6, fun hl b hb => by have := a7 hl b hb; omega⟩⟩
/-- What a bus begins with. -/
structure Su where
  cs : List Ck
  T : Tm
  pub : List Int
  sec : List Int
structure InS (N : Nat) (w : World) (lv pv sv : Value) (s : Su) : Prop where
  c : InC N w lv s.cs
  cl : s.cs.length ≤ 9223372036854775807
  ck : ∀ x ∈ s.cs, (-9223372036854775808 ≤ x.a ∧ x.a ≤ 9223372036854775807) ∧ (∀ b ∈ x.l, 0 ≤ b ∧ b ≤ 255) ∧ x.l.length ≤ 9223372036854775807 ∧ 0 ≤ x.t ∧ x.t ≤ 255
  p : HoldsW bE 1 w pv s.pub ∧ (∀ b ∈ s.pub, 0 ≤ b ∧ b ≤ 255) ∧ s.pub.length ≤ 9223372036854775807
  s : HoldsW bE 1 w sv s.sec ∧ (∀ b ∈ s.sec, 0 ≤ b ∧ b ≤ 255) ∧ s.sec.length ≤ 9223372036854775807
theorem InS.below {N : Nat} {w u : World} {lv pv sv : Value} {s : Su} (h : InS N w lv pv sv s) (hb : Below w.heap.size w u) : InS N u lv pv sv s :=
  ⟨h.c.below hb, h.cl, h.ck, ⟨h.p.1.below hb, h.p.2⟩, ⟨h.s.1.below hb, h.s.2⟩⟩
def suA (lv pv sv : Value) (T : Tm) : Array Value := #[lv, .int .i64 T.l, .int .i64 T.c, .bool T.r, .bool T.a, .bool T.s, .bool T.g, pv, sv]
def fewC (x : Ck) : Bool := !decide ((60 : Int) < (x.l.length : Int))
def fewS (s : Su) : Bool := s.cs.all fewC && (decide ((s.cs.length : Int) ≤ 6) && decide ((s.pub.length : Int) ≤ 60) && decide ((s.sec.length : Int) ≤ 60))
set_option maxRecDepth 100000 in
set_option maxHeartbeats 4000000 in
theorem few13_c (N : Nat) (s : Su) (lv pv sv : Value) (w : World) (h : InS N w lv pv sv s) (hN : N ≤ w.heap.size) :
    Calls Tryd.prog 22 #[.agg (suA lv pv sv s.T)] w fun e w' => e = .returned (.bool (fewS s)) ∧ Below w.heap.size w w' := by
  obtain ⟨R, hR⟩ : ∃ R, fewS s = R := ⟨_, rfl⟩
  rw [hR]
  unfold fewS at hR
  have hl := h.cl
  obtain ⟨p, c, rfl⟩ := h.c.form
  obtain ⟨p1, c1, rfl⟩ := h.p.1.form
  obtain ⟨p2, c2, rfl⟩ := h.s.1.form
  obtain ⟨cs, T, pub, sec⟩ := s
  dsimp only at *
  have HV := Lib.hid h.c
  obtain ⟨n, hn⟩ : ∃ n, cs.length = n := ⟨_, rfl⟩
  obtain ⟨np, hnp⟩ : ∃ n, pub.length = n := ⟨_, rfl⟩
  obtain ⟨ns, hns⟩ : ∃ n, sec.length = n := ⟨_, rfl⟩
  rw [hn] at hl HV hR ⊢
  rw [hnp] at hR ⊢
  rw [hns] at hR ⊢
  have HR := Lib.hid hR
  have HN := Lib.hid hn
  unfold suA
  clear h hR hn hnp hns
  go_enter Tryd.func22, Tryd.ntmps22
  go_wp2_with fail
  go_loopw [3] (fun i wr => ∃ k : Nat, k ≤ n ∧ i = .int .i64 k ∧ Hid ((cs.drop k).all fewC = cs.all fewC) ∧ Below w.heap.size w wr ∧
    (wr.cell? ⟨w.heap.size, 0, none⟩ = some (.slice p n c) ∧ wr.cell? ⟨w.heap.size, 7, none⟩ = some (.slice p1 np c1) ∧ wr.cell? ⟨w.heap.size, 8, none⟩ = some (.slice p2 ns c2))) (fun i _ => n - (intOf i).toNat)
  case atStart => exact ⟨0, Nat.zero_le _, rfl, Lib.hid (by rw [List.drop_zero]), by go_grown, by go_simp; first | done | rfl, by go_simp; first | done | rfl, by go_simp; first | done | rfl⟩
  case round =>
    obtain ⟨k, hk, rfl, HK, hB, z0, z7, z8⟩ := hrel
    have hz0 := klt z0
    by_cases hlt : k < n
    · have hk1 : k < cs.length := by have := HN.out; omega
      have hd : decide ((k : Int) < (n : Int)) = true := decide_eq_true (by omega)
      have hin : (0 : Int) ≤ (k : Int) ∧ (k : Int) < (n : Int) := by omega
      have hw1 : IntKind.i64.wrap ((k : Int) + 1) = (k : Int) + 1 := IntWalk.i64_in _ (by omega)
      rcases HV.out with ⟨_, e⟩ | ⟨g, o, cap, e1, hcap, hgN, hcc⟩
      · subst e; exact absurd hk1 (by simp)
      obtain ⟨rfl, n1, rfl⟩ := Value.slice.inj e1
      clear e1 n1
      obtain ⟨xv, x0, x1, x2, x6, x7⟩ := hcc k _ (List.getElem?_eq_getElem hk1)
      have hst := HK.out
      rw [List.drop_eq_getElem_cons hk1, List.all_cons] at hst
      generalize cs[k] = x at *
      obtain ⟨xa, xl, xt⟩ := x
      dsimp only at x0 x1 x2 x6 x7
      obtain ⟨lp, lc, rfl⟩ := x6.form
      obtain ⟨m, hm⟩ : ∃ m, xl.length = m := ⟨_, rfl⟩
      rw [hm] at x1
      have hbig : fewC ⟨xa, xl, xt⟩ = !decide ((60 : Int) < (m : Int)) := by unfold fewC; rw [← hm]
      have hx_1 := kc hB x1
      have hgl := klt hx_1
      have HFin := Lib.hid (show fewC ⟨xa, xl, xt⟩ = false → R = false from fun h1 => by
        rw [h1] at hst
        rw [← HR.out, ← hst]
        rfl)
      have HGo := Lib.hid (show fewC ⟨xa, xl, xt⟩ = true → (cs.drop (k + 1)).all fewC = cs.all fewC from fun h1 => by
        rw [h1] at hst
        simpa using hst)
      have HBG := Lib.hid hbig
      clear hcc hst hbig x0 x1 x2 x6 x7 hm HK hk1
      by_cases c1 : 60 < m
      · have d1 : decide ((60 : Int) < (m : Int)) = true := decide_eq_true (by omega)
        have HF := Lib.hid (HFin.out (by rw [HBG.out, d1]; rfl))
        go_wp2
        go_ret
        obtain rfl := HF.out
        exact ⟨rfl, hB⟩
      · have d1 : decide ((60 : Int) < (m : Int)) = false := decide_eq_false (by omega)
        have HF := Lib.hid (HGo.out (by rw [HBG.out, d1]; rfl))
        go_wp2
        exact ⟨⟨k + 1, by omega, by simp, HF, hB, z0, z7, z8⟩, by first | omega | (simp [intOf]; omega)⟩
    · obtain rfl : k = n := by omega
      have hd : decide ((k : Int) < (k : Int)) = false := decide_eq_false (by omega)
      have hdr := HK.out
      rw [List.drop_eq_nil_of_le (by have := HN.out; omega), List.all_nil] at hdr
      have hR := HR.out
      rw [← hdr, Bool.true_and] at hR
      have HRR := Lib.hid hR.symm
      clear hdr hR
      obtain ⟨A, hA⟩ : ∃ A, decide ((k : Int) ≤ 6) = A := ⟨_, rfl⟩
      obtain ⟨B, hB'⟩ : ∃ B, decide ((np : Int) ≤ 60) = B := ⟨_, rfl⟩
      obtain ⟨C, hC⟩ : ∃ C, decide ((ns : Int) ≤ 60) = C := ⟨_, rfl⟩
      rw [hA, hB', hC] at HRR
      cases A <;> cases B <;> cases C
      all_goals
        go_wp2
        go_ret
        obtain rfl := HRR.out
        exact ⟨rfl, hB⟩
end Go.Proofs.YtcnejgilmciljaaDoor
