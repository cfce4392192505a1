/-
  Layer 9's laws: loads in memory; whether they are not too many; a memory into which they are loaded; bytes that are other ones.
-/
import Derived.Test.YtcilnbkmaoneaaaDoorLays9
import Derived.Test.YtcilnbkmaoneaaaDoorOpen8
set_option linter.unusedSimpArgs false
set_option linter.unusedVariables false
namespace Go.Proofs.YtcilnbkmaoneaaaDoor
open Go.RowKit Go.PlainAid

/-- A slice that holds these loads, each with its own bytes, all apart from blocks from N on. -/
def HoldsLd (N : Nat) (w : World) (v : Value) (l : List Ld) : Prop :=
  ((∃ p c, v = .slice p 0 c) ∧ l = []) ∨ ∃ g o cap, v = .slice (some ⟨g, o, none⟩) l.length cap ∧ l.length ≤ cap ∧ g < N ∧ ∀ j (x : Ld), l[j]? = some x → ∃ lv, w.cell? ⟨g, o + j * 2, none⟩ = some (.int .i64 x.a) ∧ w.cell? ⟨g, o + j * 2 + 1, none⟩ = some lv ∧ HoldsB w lv x.l ∧ (0 < x.l.length → ∀ g', lv.ownBlock = some g' → g' < N)
theorem HoldsLd.form {N : Nat} {w : World} {v : Value} {l : List Ld} (h : HoldsLd N w v l) : ∃ p c, v = .slice p l.length c := by
  rcases h with ⟨⟨p, c, rfl⟩, rfl⟩ | ⟨g, o, cap, rfl, _⟩
  · exact ⟨p, c, rfl⟩
  · exact ⟨_, cap, rfl⟩
theorem HoldsLd.below {N : Nat} {w u : World} {v : Value} {l : List Ld} (h : HoldsLd N w v l) (hb : Below w.heap.size w u) : HoldsLd N u v l := by
  rcases h with h | ⟨g, o, cap, e, hc, hg, h⟩
  · exact .inl h
  · exact .inr ⟨g, o, cap, e, hc, hg, fun j x hx => by
      obtain ⟨lv, a0, a1, a2, a3⟩ := h j x hx
      exact ⟨lv, kc hb a0, kc hb a1, a2.below hb, a3⟩⟩
def fewL (l : List Ld) : Bool := l.all (fun x => decide ((x.l.length : Int) ≤ 300)) && decide ((l.length : Int) ≤ 8)
set_option maxRecDepth 100000 in
set_option maxHeartbeats 2000000 in
theorem few9_c (N : Nat) (l : List Ld) (hl : l.length ≤ 9223372036854775807) (v : Value) (w : World) (hv : HoldsLd N w v l) :
    Calls Tryd.prog 7 #[v] w fun e w' => e = .returned (.bool (fewL l)) ∧ Below w.heap.size w w' := by
  obtain ⟨R, hR⟩ : ∃ R, fewL l = R := ⟨_, rfl⟩
  rw [hR]
  obtain ⟨p, c, rfl⟩ := hv.form
  obtain ⟨n, hn⟩ : ∃ n, l.length = n := ⟨_, rfl⟩
  rw [hn] at hv hl ⊢
  have HV := Lib.hid hv
  have HR := Lib.hid hR
  have HN := Lib.hid hn
  clear hv hR hn
  go_enter Tryd.func7, Tryd.ntmps7
  go_wp2_with fail
  go_loopw [3] (fun i wr => ∃ k : Nat, k ≤ n ∧ i = .int .i64 k ∧ Hid ((l.drop k).all (fun x => decide ((x.l.length : Int) ≤ 300)) = l.all (fun x => decide ((x.l.length : Int) ≤ 300))) ∧ Below w.heap.size w wr) (fun i _ => n - (intOf i).toNat)
  case atStart => exact ⟨0, Nat.zero_le _, rfl, Lib.hid (by rw [List.drop_zero]), by go_grown⟩
  case round =>
    obtain ⟨k, hk, rfl, HK, hB⟩ := hrel
    by_cases hlt : k < n
    · have hd : decide ((k : Int) < (n : Int)) = true := decide_eq_true (by omega)
      have hk1 : k < l.length := by have := HN.out; omega
      have hin : (0 : Int) ≤ (k : Int) ∧ (k : Int) < (n : Int) := by omega
      have hw1 : IntKind.i64.wrap ((k : Int) + 1) = (k : Int) + 1 := IntWalk.i64_in _ (by omega)
      rcases HV.out with ⟨_, e⟩ | ⟨g, o, cap, e1, hcap, hgN, hcc⟩
      · subst e; exact absurd hk1 (by simp)
      obtain ⟨rfl, n1, rfl⟩ := Value.slice.inj e1
      clear e1 n1
      obtain ⟨lv, x0, x1, x2, x3⟩ := hcc k _ (List.getElem?_eq_getElem hk1)
      have hst := HK.out
      rw [List.drop_eq_getElem_cons hk1, List.all_cons] at hst
      generalize l[k] = x at *
      obtain ⟨xa, xl⟩ := x
      dsimp only at x0 x1 x2 x3 hst
      obtain ⟨lp, lc, rfl⟩ := x2.form
      obtain ⟨m, hm⟩ : ∃ m, xl.length = m := ⟨_, rfl⟩
      rw [hm] at x1 hst
      have HST := Lib.hid hst
      have x1 := kc hB x1
      clear hcc hst x0 x2 x3 hm HK
      by_cases c1 : 300 < m
      · have d1 : (300 : Int) < (m : Int) := by omega
        have HF := Lib.hid (show R = false from by
          have h := HST.out
          rw [decide_eq_false (by omega), Bool.false_and] at h
          rw [← HR.out, fewL, ← h]
          rfl)
        clear HST c1
        go_wp2
        go_ret
        exact ⟨by rw [HF.out]; rfl, hB⟩
      · have d1 : ¬ (300 : Int) < (m : Int) := by omega
        have HF := Lib.hid (show (l.drop (k + 1)).all (fun x => decide ((x.l.length : Int) ≤ 300)) = l.all (fun x => decide ((x.l.length : Int) ≤ 300)) from by
          have h := HST.out
          rw [decide_eq_true (by omega), Bool.true_and] at h
          exact h)
        clear HST c1
        go_wp2
        go_roundw
        case rel => exact ⟨k + 1, by omega, by go_num, HF, hB⟩
        case measure => simp [intOf] <;> omega
    · have hd : decide ((k : Int) < (n : Int)) = false := decide_eq_false (by omega)
      have HF := Lib.hid (show R = decide ((n : Int) ≤ 8) from by
        have h := HK.out
        rw [List.drop_eq_nil_of_le (by have := HN.out; omega)] at h
        rw [← HR.out, fewL, ← h, HN.out]
        rfl)
      clear HK
      go_wp2
      go_ret
      exact ⟨by rw [HF.out]; rfl, hB⟩
set_option maxRecDepth 100000 in
set_option maxHeartbeats 4000000 in
theorem loaded_c (l : List Ld) (hl : l.length ≤ 9223372036854775807) (hbl : ∀ x ∈ l, x.l.length ≤ 100000) (v : Value) (N : Nat) (w : World) (hv : HoldsLd N w v l) (hN : N ≤ w.heap.size) (hL : Laid w) :
    Calls Tryd.prog 10 #[v] w (MadeEnd w (loadsM zeroM l)) := by
  have hlt := hL.lt
  have HLd := Lib.hid (fun W (h : Below w.heap.size w W) => hL.below h)
  obtain ⟨p, c, rfl⟩ := hv.form
  obtain ⟨n, hn⟩ : ∃ n, l.length = n := ⟨_, rfl⟩
  rw [hn] at hv hl ⊢
  have HV := Lib.hid hv
  have HN := Lib.hid hn
  have HBL := Lib.hid hbl
  clear hv hn hL hbl
  go_enter Tryd.func10, Tryd.ntmps10
  go_wp2_with fail
  refine (new_x _ hlt).mono ?_
  rintro _ u1 ⟨mb, bb, rfl, hb, hP, hmb, hbb⟩
  have HP := Lib.hid hP
  have HB1 := Lib.hid hb
  have hz1 := hb.size
  have hmu : mb < u1.heap.size := klt hP.c0
  clear hb hP
  go_wp2_with fail
  go_loopw [4] (fun i wr => ∃ k : Nat, k ≤ n ∧ i = .int .i64 k ∧ Hid (Pm mb bb wr (loadsM zeroM (l.take k))) ∧ Hid (u1.grownBy wr (some bb))) (fun i _ => n - (intOf i).toNat)
  case atStart => exact ⟨0, Nat.zero_le _, rfl, Lib.hid (by rw [List.take_zero]; exact HP.out), Lib.hid (grown_of9 (Below.refl _ _))⟩
  case round =>
    obtain ⟨k, hk, rfl, HPr, HGr⟩ := hrel
    have HBr := Lib.hid (below_grown9 HB1.out HGr.out hbb)
    by_cases hlt2 : k < n
    · have hd : decide ((k : Int) < (n : Int)) = true := decide_eq_true (by omega)
      have hlk : k < l.length := by rw [HN.out]; exact hlt2
      have hin : (0 : Int) ≤ (k : Int) ∧ (k : Int) < (n : Int) := by omega
      have hw1 : IntKind.i64.wrap ((k : Int) + 1) = (k : Int) + 1 := IntWalk.i64_in _ (by omega)
      rcases HV.out with ⟨_, e⟩ | ⟨g, o, cap, e1, hcap, hgN, hcc⟩
      · subst e; exact absurd hlk (by simp)
      obtain ⟨rfl, n1, rfl⟩ := Value.slice.inj e1
      clear e1 n1
      obtain ⟨lv, x0, x1, x2, x3⟩ := hcc k _ (List.getElem?_eq_getElem hlk)
      have hxl := HBL.out l[k] (List.getElem_mem hlk)
      have hst : loadsM zeroM (l.take (k + 1)) = (loadMp (loadsM zeroM (l.take k)) l[k].a l[k].l).2 := by rw [List.take_succ_eq_append_getElem hlk, loadsM_snoc]
      generalize l[k] = x at *
      obtain ⟨xa, xl⟩ := x
      dsimp only at x0 x1 x2 x3 hst hxl
      have hs_0 := kc HBr.out x0
      have hs_1 := kc HBr.out x1
      have hC : ∀ W, Below wr.heap.size wr W → Calls Tryd.prog 18 #[.pointer (some ⟨mb, 0, none⟩), .int .i64 xa, lv] W (MemEnd mb bb W (loadMp (loadsM zeroM (l.take k)) xa xl).1 (loadMp (loadsM zeroM (l.take k)) xa xl).2) := fun W hb =>
        loadp_c _ xa xl hxl mb bb lv W (HPr.out.below hb) (HLd.out W (kb HBr.out hb)) (x2.below (kb HBr.out hb)) (fun h g' hg' => by have := x3 h g' hg'; omega)
      rw [← hst] at hC
      have HC := Lib.hid hC
      have hB : Below wr.heap.size wr wr := Below.refl _ _
      have hsz := hB.size
      have hls := klt hs_0
      clear x0 x1 x2 x3 hcc hst hC
      go_wp2_with fail
      refine wp_region_planT 11 (fun w' => w'.cell? ⟨g, o + k * 2, none⟩ = some (.int .i64 xa) ∧ w'.cell? ⟨g, o + k * 2 + 1, none⟩ = some (lv) ∧ Below wr.heap.size wr w') (by kernel_rfl) (by kernel_rfl) (by kernel_rfl) (by kernel_rfl) ?_ ?_
      · (try dsimp only)
        refine ⟨?_, ?_, ?_⟩ <;> first | (go_simp; done) | (simp [*]; done) | go_grown
      (try simp only [List.append_eq, List.cons_append, List.nil_append, List.toList_toArray, List.take_succ_cons, List.take_zero, List.drop_succ_cons, List.drop_zero])
      repeat (first
        | (refine Plan.val (v := ?_) ?_ ?_ ?_; rotate_left; (· rfl); (· (intro W hSw; (try dsimp only at hSw); go_simp; all_goals (first | (with_reducible rfl) | (constructor <;> (with_reducible rfl)) | (rw [if_neg (by omega)]; done) | (rw [if_neg (by omega)]; with_reducible rfl)))); (try simp only [Act.put, List.setIfInBounds_toArray, List.set_cons_zero, List.set_cons_succ]))
        | (refine Plan.no ?_ ?_; (· rfl); (try simp only [Act.put, List.setIfInBounds_toArray, List.set_cons_zero, List.set_cons_succ])))
      refine Plan.done ?_
      intro u3 T
      (try dsimp only at T)
      obtain ⟨hs_0, hs_1, hB⟩ := T
      have hsz := hB.size
      have hls := klt hs_0
      obtain ⟨hns0, hns1, hks1, hns2, hks2⟩ := ap0 hls
      have hBu := hB
      go_wp2_with fail
      refine (HC.out _ hBu).mono ?_
      rintro _ u ⟨rfl, hg, hP2⟩
      have HP2 := Lib.hid hP2
      have HG2 := Lib.hid (World.grownBy.trans (World.grownBy.trans HGr.out (grown_of9 (g := some bb) hBu)) hg)
      clear hg hP2 HC
      go_wp2
      go_roundw
      case rel => exact ⟨k + 1, by omega, by go_num, HP2, HG2⟩
      case measure => simp [intOf] <;> omega
    · have hkm : k = n := by omega
      have hd : decide ((k : Int) < (n : Int)) = false := decide_eq_false (by omega)
      have HFIN := Lib.hid (show Pm mb bb wr (loadsM zeroM l) from by have := HPr.out; rw [hkm, ← HN.out, List.take_length] at this; exact this)
      clear hkm
      go_wp2
      go_ret
      exact ⟨mb, bb, rfl, HBr.out, HFIN.out, hmb, hbb⟩
end Go.Proofs.YtcilnbkmaoneaaaDoor
