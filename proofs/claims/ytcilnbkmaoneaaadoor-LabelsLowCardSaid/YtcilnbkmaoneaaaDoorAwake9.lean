/-
  Layer 9's laws: the chapter's example.
-/
import Derived.Test.YtcilnbkmaoneaaaDoorRange9
set_option linter.unusedSimpArgs false
set_option linter.unusedVariables false
namespace Go.Proofs.YtcilnbkmaoneaaaDoor
open Go.RowKit Go.PlainAid Go.Shelf
attribute [local go_sem] Oper.semAt_some

def exP : Pol := ⟨exS, [], 0, 1⟩
theorem holds_ex {W : World} {g : Nat} (h0 : W.cell? ⟨g, 0, none⟩ = some (.int .i64 16)) (h1 : W.cell? ⟨g, 1, none⟩ = some (.int .i64 17)) (h2 : W.cell? ⟨g, 2, none⟩ = some (.int .u8 3)) :
    HoldsP W (.agg #[.slice (some ⟨g, 0, none⟩) 1 1, .slice none 0 0, .int .i64 0, .int .i64 1]) exP := by
  refine ⟨_, _, rfl, .inr ⟨g, 0, 1, rfl, Nat.le_refl _, fun j x hx i u hu => ?_⟩, HoldsE.nil W⟩
  match j, hx with
  | 0, hx =>
    obtain rfl : (⟨16, 17, 3⟩ : Sp) = x := by simpa [exP, exS] using hx
    match i, hu with
    | 0, hu => obtain rfl := Option.some.inj hu; exact h0
    | 1, hu => obtain rfl := Option.some.inj hu; exact h1
    | 2, hu => obtain rfl := Option.some.inj hu; exact h2
    | i + 3, hu => exact absurd hu (by simp [Sp.cells])
  | j + 1, hx => exact absurd hx (by simp [exP, exS])
theorem stE_len (S : Int → Int) : ∀ pre, (stE S pre).2 = pre.length := by
  have h : ∀ (pre : List (AdB S)) (s : Bool × Nat), (pre.foldl (fun (s : Bool × Nat) x => (s.1 && decide (((x.1 : Nat) : Int) = 16 + (s.2 : Int)) && decide (S (x.1 : Int) = 3) && decide (s.2 ≤ 1), s.2 + 1)) s).2 = s.2 + pre.length := by
    intro pre
    induction pre with
    | nil => intro s; simp
    | cons x r ih => intro s; rw [List.foldl_cons, ih, List.length_cons]; omega
  intro pre
  have h2 := h pre (true, 0)
  exact h2.trans (Nat.zero_add _)
/-- Behind a range: the result's cell, the range's record, what is as it was. -/
structure Fin9 (w : World) (Dd : Nat) (v : Value) (W : World) : Prop where
  c : W.cell? ⟨w.heap.size, 0, none⟩ = some v
  f : W.frozen? ⟨w.heap.size, 0, none⟩ = false
  d : W.heap[Dd]? = some (.deferred (some []))
  b : Below w.heap.size w W
theorem Fin9.below {w W U : World} {Dd : Nat} {v : Value} (h : Fin9 w Dd v W) (hb : Below W.heap.size W U) : Fin9 w Dd v U :=
  ⟨kc hb h.c, kfz hb (klt h.c) h.f, (hb.block Dd (Array.getElem?_eq_some_iff.1 h.d).1).trans h.d, h.b.trans (hb.mono h.b.size)⟩
/-- Behind the store of the result: the call ends, its record is done away with. -/
theorem Fin9.goes {w W : World} {Dd : Nat} {v : Value} (h : Fin9 w Dd v W) (hD : w.heap.size < Dd) (u : Value) : ∃ W2 : World, W2 = W.setCell ⟨w.heap.size, 0, none⟩ u ∧ W2.heap[Dd]? = some (.deferred (some [])) ∧
    (W2.putObj Dd (.deferred none)).cell? ⟨w.heap.size, 0, none⟩ = some u ∧ Below w.heap.size w (W2.putObj Dd (.deferred none)) := by
  have hK2 := (KeepsOthers.setCell W ⟨w.heap.size, 0, none⟩ u).same Dd _ h.d rfl
  have hB2 : Below w.heap.size w (W.setCell ⟨w.heap.size, 0, none⟩ u) := h.b.setCell (p := ⟨w.heap.size, 0, none⟩) (Nat.le_refl _) _
  have c3 : (W.setCell ⟨w.heap.size, 0, none⟩ u).cell? ⟨w.heap.size, 0, none⟩ = some u := World.cell?_setCell_same _ _ _ h.c
  generalize W.setCell ⟨w.heap.size, 0, none⟩ u = W2 at *
  have d3 := cell_kept c3 (grownBy_putObj' _ Dd (.deferred none)) (fun r e => by cases e; exact ⟨_, hK2, rfl⟩)
  exact ⟨W2, rfl, hK2, d3, hB2.trans (belowK_b (w := w) (Nat.le_refl _) W2 Dd _ _ (by omega) hK2 rfl rfl)⟩
set_option maxRecDepth 100000 in
set_option maxHeartbeats 8000000 in
theorem awake_in (w : World) : CallsIn Fence.wide 4 Tryd.prog 8 #[] w (LawEnd w) := by
  refine callsIn_of_wp_marks Tryd.func8 rfl trivial ?_ rfl
  simp only [Tryd.ntmps8, List.size_toArray, List.length_cons, List.length_nil, Nat.reduceAdd, Nat.reduceSub, Array.replicate_succ, Array.replicate_zero, List.push_toArray, List.append_toArray, List.nil_append, List.cons_append]
  refine wpIn_wide.2 ?_
  go_wp2_with fail
  ((with_reducible refine (newt_good exP (by decide) _ _ (holds_ex (by go_simp) (by go_simp) (by go_simp)) (by decide)).mono ?_); rintro _ u1 ⟨tb, rfl, hb, hT, htb⟩)
  have hs_u1 := Lib.hid hb
  have T : CF u1 w.heap.size 0 (.bool false) := by
      refine ⟨?_, ?_⟩ <;> first | (refine kc hb ?_ <;> (go_simp; first | done | rfl)) | (refine kfz hb ?_ ?_ <;> first | (go_size; done) | (go_simp; done))
  have hz := hb.size
  (try simp only [World.size_alloc, World.size_setCell, World.size_drew] at hz)
  have L : w.heap.size < u1.heap.size := by omega
  have hB' : Below w.heap.size w u1 := by
      refine kb ?_ hb
      go_grown
  clear hb hz
  obtain ⟨hr_0, fr_0⟩ := T
  have hlr := L; clear L
  obtain ⟨hnr0, hnr1, hkr1, hnr2, hkr2⟩ := ap0 hlr
  have hB := hB'; clear hB'
  have hsz := hB.size
  have HT := Lib.hid hT
  have HTA := Lib.hid hT
  have HBw1 := Lib.hid hB
  have HRR := Lib.hid (And.intro hr_0 fr_0)
  have hlt := hT.lt
  simp only [World.size_alloc] at htb
  clear hT
  go_wp2_with fail
  ((with_reducible refine (all_c (some ⟨tb, 0, none⟩) _).mono ?_); rintro _ u2 ⟨B, rfl, hb, hBc, hB1, hB2⟩)
  have hs_u2 := Lib.hid hb
  have T : CF u2 w.heap.size 0 (.bool false) ∧ CF u2 u1.heap.size 0 (.int .i64 0) := by
      refine ⟨⟨?_, ?_⟩, ⟨?_, ?_⟩⟩ <;> first | (refine kc hb ?_ <;> (go_simp; first | done | rfl)) | (refine kfz hb ?_ ?_ <;> first | (go_size; done) | (go_simp; done))
  have hz := hb.size
  (try simp only [World.size_alloc, World.size_setCell, World.size_drew] at hz)
  have L : w.heap.size < u2.heap.size ∧ u1.heap.size < u2.heap.size := by omega
  have hB' : Below w.heap.size w u2 := by
      refine kb ?_ hb
      go_grown
  clear hr_0 fr_0 hlr hnr0 hnr1 hkr1 hnr2 hkr2 hB hsz
  clear hb hz
  obtain ⟨⟨hr_0, fr_0⟩, ⟨hn_0, fn_0⟩⟩ := T
  obtain ⟨hlr, hln⟩ := L
  obtain ⟨hnr0, hnr1, hkr1, hnr2, hkr2⟩ := ap0 hlr
  obtain ⟨hnn0, hnn1, hkn1, hnn2, hkn2⟩ := ap0 hln
  have hB := hB'; clear hB'
  have hsz := hB.size
  have HT2 := Lib.hid (HT.out.below (((Below.refl _ u1).alloc (Nat.le_refl _) _).trans (hs_u2.out.mono (by simp))))
  have HBc := Lib.hid hBc
  simp only [World.size_alloc] at hB1
  have hz2 := hs_u2.out.size
  simp only [World.size_alloc] at hz2
  have q0 := fun W => all_not_nil B W
  unfold allF at q0 ⊢
  clear hBc HT
  go_wp2_with fail
  have HR := Lib.hid (And.intro hr_0 fr_0)
  have hB12 : Below u1.heap.size u1 u2 := ((Below.refl _ u1).alloc (Nat.le_refl _) _).trans (hs_u2.out.mono (by simp))
  have HB12 := Lib.hid hB12
  have hzz : u1.heap.size + 1 ≤ u2.heap.size := by omega
  have hwu : w.heap.size < u1.heap.size := by omega
  have HTL := Lib.hid htb
  have HR1 := Lib.hid (And.intro HRR.out.1 HRR.out.2)
  refine wpIn_rangeA (n := 4) (S := bitsR exP.s) (by decide) (gf := 35) (lb := #[.pointer (some ⟨B, 0, none⟩)]) rfl (enters_of Tryd.func35 (by kernel_rfl) rfl) 25 26 5 6 B tb
    (allp_stops (4 - 1) (by decide) B tb exP u2 HBc.out HT2.out) hB2 HT2.out.lt rfl
    (fun pre W => ((stE (bitsR exP.s) pre).1 = true ∧ Nc u1.heap.size ((stE (bitsR exP.s) pre).2 : Int) W) ∧ Below u1.heap.size u1 W)
    (fun c pre W => c = .ret ∧ (stE (bitsR exP.s) pre).1 = false)
    (OwnFrom.and (Own.from (fun s A C row hs hg hr => ⟨hs.1, Nc.own u1.heap.size (fun pre => ((stE (bitsR exP.s) pre).2 : Int)) s A C row hs.2 hg hr⟩) _) (ownFrom_below (Nat.le_refl _) (by omega)))
    (fun c => fun _ _ _ _ h _ _ => h)
    ⟨⟨rfl, ⟨hn_0, fn_0⟩⟩, hB12⟩ ?assign ?body ?done ?stop
  case assign =>
    rintro l1 pre x W K hI hK
    dsimp only [encB]
    gi_wp2
    exact hK _ _ ((KeepsOthers.refl _).from _) (Kq.refl _) hI rfl
  case body =>
    rintro l1 pre x W hl1 ⟨r1, hr1⟩ ⟨⟨hs, hn⟩, hBW⟩ hlen
    have hlen2 := stE_len (bitsR exP.s) pre
    have HSN := Lib.hid (stE_snoc (bitsR exP.s) pre x)
    obtain ⟨N, hN⟩ : ∃ N, (stE (bitsR exP.s) pre).2 = N := ⟨_, rfl⟩
    rw [hN] at hn hlen2 HSN
    rw [hs] at HSN
    have hr_0 := kc hBW HR1.out.1
    have fr_0 := kfz hBW hwu HR1.out.2
    have hnc := hn.1
    have hnf := hn.2
    have hltn := klt hnc
    have hltr := klt hr_0
    have hB : Below W.heap.size W W := Below.refl _ _
    have hszl := hBW.size
    have hne : ¬ w.heap.size = u1.heap.size := by omega
    have hneB : B ≠ u1.heap.size := by omega
    have hneT : tb ≠ u1.heap.size := by have := HTL.out; omega
    have hw1 : IntKind.i64.wrap (16 + (N : Int)) = 16 + (N : Int) := IntWalk.i64_in _ (by omega)
    have hw2 : IntKind.i64.wrap ((N : Int) + 1) = (N : Int) + 1 := IntWalk.i64_in _ (by omega)
    have hNb : N ≤ 70000 := by omega
    clear hlen2 hN
    dsimp only [actA, encB]
    generalize ((x.1 : Nat) : Int) = k at *
    generalize bitsR exP.s k = b at *
    by_cases h1 : k = 16 + (N : Int)
    · have h1a : (k != 16 + (N : Int)) = false := by simp [h1]
      by_cases h2 : b = 3
      · have h2a : (b != 3) = false := by simp [h2]
        by_cases h3 : N ≤ 1
        · have h3a : ¬ (1 : Int) < (N : Int) := by omega
          have HGD := Lib.hid (show stE (bitsR exP.s) (pre ++ [x]) = (true, N + 1) from by rw [HSN.out, decide_eq_true h1, decide_eq_true h2, decide_eq_true h3]; rfl)
          clear h1 h2 h3 HSN
          gi_wp2
          refine ⟨((keeps_of9 hB).trans (KeepsOthers.setCell _ _ _)).from _, (Kq.refl W).set _ _ hneB hneT, ⟨by rw [HGD.out], ?_⟩, hBW.setCell (p := ⟨u1.heap.size, 0, none⟩) (Nat.le_refl _) _⟩
          rw [HGD.out]
          exact ⟨by go_simp, by go_simp⟩
        · have h3a : (1 : Int) < (N : Int) := by omega
          have HBD := Lib.hid (show (stE (bitsR exP.s) (pre ++ [x])).1 = false from by rw [HSN.out, decide_eq_false h3]; simp)
          clear h1 h2 h3 HSN
          gi_wp2
          exact ⟨((keeps_of9 hB).trans (KeepsOthers.setCell _ _ _)).from _, rfl, HBD.out⟩
      · have h2a : (b != 3) = true := by simpa using h2
        have HBD := Lib.hid (show (stE (bitsR exP.s) (pre ++ [x])).1 = false from by rw [HSN.out, decide_eq_false h2]; simp)
        clear h1 h2 HSN
        gi_wp2
        all_goals exact ⟨((keeps_of9 hB).trans (KeepsOthers.setCell _ _ _)).from _, rfl, HBD.out⟩
    · have h1a : (k != 16 + (N : Int)) = true := by simpa using h1
      have HBD := Lib.hid (show (stE (bitsR exP.s) (pre ++ [x])).1 = false from by rw [HSN.out, decide_eq_false h1]; simp)
      clear h1 HSN
      gi_wp2
      all_goals exact ⟨((keeps_of9 hB).trans (KeepsOthers.setCell _ _ _)).from _, rfl, HBD.out⟩
  case stop =>
    rintro Dd c k W hDd hk ⟨rfl, hbad⟩ hK
    rw [stE_up (S := bitsR exP.s) (fun _ => rfl) k hk] at hbad
    cases hbad
  case done =>
    rintro Dd W hDd ⟨⟨hs, hn⟩, hBW⟩ hK
    rw [stE_up (S := bitsR exP.s) (fun _ => rfl) 65536 (Nat.le_refl _)] at hn
    have hn_0 : W.cell? ⟨u1.heap.size, 0, none⟩ = some (.int .i64 2) := hn.1
    have HF := Lib.hid (show Fin9 w Dd (.bool false) W from ⟨kc hBW HR1.out.1, kfz hBW hwu HR1.out.2, hK, kb HBw1.out hBW⟩)
    have HTW := Lib.hid (HTA.out.below hBW)
    have hs17 := Lib.hid (fun U (h : Tp tb exP U) => secretp9_c (P := exP) (by decide) 17 tb U h)
    have hs18 := Lib.hid (fun U (h : Tp tb exP U) => secretp9_c (P := exP) (by decide) 18 tb U h)
    rw [show bitsR exP.s 17 = 3 from by decide] at hs17
    rw [show bitsR exP.s 18 = 0 from by decide] at hs18
    clear hs hn hBW hK
    go_wp2_with fail
    refine (hs17.out _ HTW.out).mono ?_
    rintro _ y1 ⟨rfl, hb⟩
    have HF1 := Lib.hid (HF.out.below hb)
    have HT1 := Lib.hid (HTW.out.below hb)
    clear hb HF HTW hs17
    go_wp2_with fail
    refine (hs18.out _ HT1.out).mono ?_
    rintro _ y2 ⟨rfl, hb⟩
    have HF2 := Lib.hid (HF1.out.below hb)
    have hc := HF2.out.c
    have hf := HF2.out.f
    have hDw : w.heap.size < Dd := by omega
    clear hb HF1 HT1 hs18
    go_wp2
    obtain ⟨W2, e2, hK2, d3, hB3⟩ := HF2.out.goes hDw (.bool true)
    rw [← e2]
    exact ⟨by simp, .inl ⟨_, _, rfl, run_takeDeferred hK2, .bool true, by simp [results, Tryd.results8, go_sem, d3], rfl, hB3⟩⟩
theorem awake9_c (w : World) : Calls Tryd.prog 8 #[] w fun e w' => e = .returned (.bool true) ∧ Below w.heap.size w w' := callsIn_wide.1 (awake_in w)
end Go.Proofs.YtcilnbkmaoneaaaDoor
