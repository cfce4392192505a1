/-
  Layer 7: spans sorted in memory of their own, and a policy's.
-/
import Derived.Test.YtcilnbkmaoneaaaDoorSorted
set_option linter.unusedSimpArgs false
set_option linter.unusedVariables false
namespace Go.Proofs.YtcilnbkmaoneaaaDoor
open Go.Shelf Go.RowKit Go.Lib Go.Sort Go.PlainAid

theorem holdsE_set {α : Type} {enc : α → List Value} {k : Nat} {w : World} {v : Value} {l : List α} {B : Nat} (h : HoldsE enc k w v l) (hB : ∀ g, v.ownBlock = some g → B ≤ g) {p : Addr} (hp : p.block < B) (u : Value) : HoldsE enc k (w.setCell p u) v l := by
  rcases h with h | ⟨g, o, cap, e, hc, h⟩
  · exact .inl h
  · refine .inr ⟨g, o, cap, e, hc, fun j x hx i y hy => ?_⟩
    have hg := hB g (by rw [e]; rfl)
    rw [World.cell?_setCell_other _ _ _ _ (by intro e2; subst e2; dsimp only at hp; omega)]
    exact h j x hx i y hy
theorem Tryd.infoS : (Tryd.prog.info? 64).map (fun i => (i.zero, i.size, i.bytes)) = some (some (.agg #[.int .i64 0, .int .i64 0, .int .u8 0]), 3, 24) := by kernel_rfl
theorem nil_eq (W : World) : (binOp .eql 22 (.slice none 0 0) (.slice none 0 0)).run Tryd.prog W = .ok (.bool true) W := by kernel_rfl
theorem some_eq (a : Addr) (n c : Nat) (W : World) : (binOp .eql 22 (.slice (some a) n c) (.slice none 0 0)).run Tryd.prog W = .ok (.bool false) W := by kernel_rfl
set_option maxRecDepth 100000 in
theorem clone_nil (w : World) : Calls Tryd.prog 42 #[.slice none 0 0] w fun e w' => e = .returned (.slice none 0 0) ∧ w' = w := by
  have hq := nil_eq
  go_enter Tryd.func42, Tryd.ntmps42
  go_wp2
  go_ret
  exact ⟨rfl, rfl⟩
set_option maxRecDepth 100000 in
theorem clone_some (g o n cap : Nat) (l : List Sp) (hn : l.length = n) (hl : l.length ≤ 100000) (hcap : n ≤ cap) (w : World) (hc : ∀ j (x : Sp), l[j]? = some x → ∀ i u, x.cells[i]? = some u → w.cell? ⟨g, o + j * 3 + i, none⟩ = some u) :
    Calls Tryd.prog 42 #[.slice (some ⟨g, o, none⟩) n cap] w fun e w' => ∃ g' cap', e = .returned (.slice (some ⟨g', 0, none⟩) n cap') ∧ w.heap.size ≤ g' ∧ n ≤ cap' ∧ w'.ownsRow w.heap.size 64 3 (.slice (some ⟨g', 0, none⟩) n cap') n (l.flatMap Sp.cells) ∧ Below w.heap.size w w' := by
  have HC := Lib.hid hc
  have HN := Lib.hid (And.intro hn hl)
  clear hc hn hl
  have hq := some_eq ⟨g, o, none⟩ n cap
  obtain ⟨i0, hi, hz0, hz1, hz2⟩ := info_parts Tryd.infoS
  go_enter Tryd.func42, Tryd.ntmps42
  go_wp2_with (at_builtin; refine wpList_append_own _ rfl _ _ 22 rfl w.heap.size 64 i0 _ 3 24 Tryd.underlying22 hi hz0 hz1 hz2 rfl (by decide) _ 0 [] rfl ?c0 ⟨g, o, none⟩ n cap (l.flatMap Sp.cells) rfl ?c1 ?c2 ?c3 ?c4 ?c5 ?c6 ?_)
  case c0 => exact ⟨rfl, .inr ⟨w.heap.size, 0, #[], rfl, Nat.le_refl _, heap_alloc_new _ _, Nat.le_refl _, by decide, rfl, rfl⟩⟩
  case c1 => rw [flat_len sp_len, HN.out.1]
  case c2 =>
    intro j u hu
    have hj := (List.getElem?_eq_some_iff.1 hu).1
    rw [flat_len sp_len] at hj
    have e := flat_get l j hj
    rw [e] at hu
    have h3 : j / 3 < l.length := by omega
    have := HC.out (j / 3) l[j / 3] (List.getElem?_eq_getElem h3) (j % 3) u (by
      rw [getElem!_pos l.toArray (j / 3) (by simpa using h3)] at hu
      rw [getElem!_pos _ (j % 3) (by rw [sp_len]; omega)] at hu
      rw [List.getElem?_eq_getElem (by rw [sp_len]; omega)]
      simpa using hu)
    rw [Addr.add_lit, show o + j = o + j / 3 * 3 + j % 3 from by omega]
    exact kc ((Below.refl _ w).alloc (Nat.le_refl _) _) this
  case c3 => exact one_cells sp_one _
  case c4 => have := HN.out; unfold maxLen; omega
  case c5 => have := HN.out; omega
  case c6 => simp
  intro v' w' hown' hg hnn
  have hBw : Below w.heap.size w w' := Below.grown ((Below.refl _ w).alloc (Nat.le_refl _) _) hg (by simp) (fun k hk => by cases hk; exact Nat.le_refl _)
  have HO := Lib.hid hown'
  have HX := Lib.hid hnn
  clear hown' hg hnn
  go_wp2
  go_ret
  rcases HO.out.2 with ⟨h1, h2⟩ | ⟨g', cap', cur, h1, h2, h3, h4, r⟩
  · exact absurd h1 HX.out
  · subst h1
    exact ⟨g', cap', rfl, h2, h4, HO.out, hBw⟩
theorem enters_cmp (args : Array Value) (w : World) : (callFunc 44 args).run Tryd.prog w = .ok (.enter 44 args) w := (enters_of Tryd.func44 (by kernel_rfl) rfl) args w
set_option maxRecDepth 100000 in
theorem stable_nil (w : World) : Calls Tryd.prog 46 #[.slice none 0 0, .int .i64 0, .func (.func 44) #[] #[]] w fun e w' => e = .returned (.tuple #[]) ∧ w' = w := by
  have HI : ∀ W, Calls Tryd.prog 48 #[.slice none 0 0, .int .i64 0, .int .i64 0, .func (.func 44) #[] #[]] W fun e w' => e = .returned (.tuple #[]) ∧ w' = W := fun W => by
    go_enter Tryd.func48, Tryd.ntmps48
    go_wp2
    refine wp_loop_rounds 1 ?_
    rw [rounds_succ]
    go_wp2
    go_end0
    exact ⟨rfl, rfl⟩
  have H := Lib.hid HI
  clear HI
  go_enter Tryd.func46, Tryd.ntmps46
  go_wp2
  refine wp_loop_rounds 1 ?_
  rw [rounds_succ]
  go_wp2_with fail
  (with_reducible refine (H.out _).mono ?_)
  rintro _ _ ⟨rfl, rfl⟩
  go_wp2
  refine wp_loop_rounds 1 ?_
  rw [rounds_succ]
  go_wp2
  go_end0
  exact ⟨rfl, rfl⟩
set_option maxRecDepth 100000 in
theorem sortf_nil (w : World) : Calls Tryd.prog 43 #[.slice none 0 0, .func (.func 44) #[] #[]] w fun e w' => e = .returned (.tuple #[]) ∧ w' = w := by
  have H := Lib.hid stable_nil
  go_enter Tryd.func43, Tryd.ntmps43
  go_wp2_with fail
  (with_reducible refine (H.out _).mono ?_)
  rintro _ _ ⟨rfl, rfl⟩
  go_wp2
  go_end0
  exact ⟨rfl, rfl⟩
theorem stable_c (g cap n : Nat) (d0 : Array Sp) (hn : d0.size = n) (hz : n ≤ 100000) (w : World) (hH : HoldsK Sp.cells 3 w g 0 d0) (hg : g < w.heap.size) :
    Calls Tryd.prog 46 #[.slice (some ⟨g, 0, none⟩) n cap, .int .i64 n, .func (.func 44) #[] #[]] w fun e w' => e = .returned (.tuple #[]) ∧ HoldsK Sp.cells 3 w' g 0 (sortS d0.toList).toArray ∧ Below g w w' := by
  subst hn
  have R : RowK Sp.cells 3 w g 0 d0 := ⟨sp_len, sp_one, hH, hg⟩
  refine (stable_k 3 span_agg span_size Sp.cells (fun x => x.f) cfS cfS_lt 44 #[] g 0 cap d0 w enters_cmp (fun m os dk hd x y => cmp_c x y _) R (by omega)).mono ?_
  rintro e w' ⟨he, d', ⟨hm, hs⟩, S⟩
  have hu : d'.toList = sortS d0.toList := sortS_unique (sortL_of (by rw [hm.size]; exact hs)) hm.same
  refine ⟨he, ?_, swk_below S hg⟩
  rw [← hu, Array.toArray_toList]
  exact S.holds hg hH hm.size
set_option maxRecDepth 100000 in
theorem sortf_c (g cap n : Nat) (d0 : Array Sp) (hn : d0.size = n) (hz : n ≤ 100000) (w : World) (hH : HoldsK Sp.cells 3 w g 0 d0) (hg : g < w.heap.size) :
    Calls Tryd.prog 43 #[.slice (some ⟨g, 0, none⟩) n cap, .func (.func 44) #[] #[]] w fun e w' => e = .returned (.tuple #[]) ∧ HoldsK Sp.cells 3 w' g 0 (sortS d0.toList).toArray ∧ Below g w w' := by
  have H := Lib.hid (stable_c g cap n d0 hn hz w hH hg)
  clear hH hg hn
  go_enter Tryd.func43, Tryd.ntmps43
  go_wp2_with fail
  (with_reducible refine (H.out).mono ?_)
  rintro _ u ⟨rfl, h1, h2⟩
  have HH := Lib.hid (And.intro h1 h2)
  clear h1 h2
  go_wp2
  go_end0
  exact ⟨rfl, HH.out⟩
/-- A call answers one slice that holds these, in memory of its own. -/
def AnsS (w : World) (l : List Sp) : Ending → World → Prop := fun e w' => ∃ v, e = .returned v ∧ HoldsS w' v l ∧ (∀ g, v.ownBlock = some g → w.heap.size ≤ g) ∧ Below w.heap.size w w'
set_option maxRecDepth 100000 in
theorem sortedSpans_c (l : List Sp) (hl : l.length ≤ 100000) (v : Value) (w : World) (hv : HoldsS w v l) : Calls Tryd.prog 38 #[v] w (AnsS w (sortS l)) := by
  rcases hv with ⟨rfl, rfl⟩ | ⟨g, o, cap, rfl, hcap, hc⟩
  · have H1 := Lib.hid clone_nil
    have H2 := Lib.hid sortf_nil
    go_enter Tryd.func38, Tryd.ntmps38
    go_wp2_with fail
    (with_reducible refine (H1.out _).mono ?_)
    rintro _ _ ⟨rfl, rfl⟩
    go_wp2_with fail
    (with_reducible refine (H2.out _).mono ?_)
    rintro _ _ ⟨rfl, rfl⟩
    go_wp2
    go_ret
    exact ⟨_, rfl, HoldsE.nil _, (fun g h => by cases h), Below.refl _ _⟩
  · have H1 := Lib.hid (clone_some g o l.length cap l rfl hl hcap w hc)
    obtain ⟨n, hn⟩ : ∃ n, l.length = n := ⟨_, rfl⟩
    rw [hn] at H1 hcap ⊢
    have HN := Lib.hid (And.intro hn hl)
    clear hc hn hl
    go_enter Tryd.func38, Tryd.ntmps38
    go_wp2_with fail
    (with_reducible refine (H1.out).mono ?_)
    rintro _ u ⟨g', cap', rfl, hg', hc', hown, hB⟩
    have h2 := holdsK_own (l := l) (cap := cap') (g := g') (by rw [HN.out.1]; exact hown)
    have HS := Lib.hid (sortf_c g' cap' n l.toArray (by simpa using HN.out.1) (by have := HN.out; omega) u h2.1 h2.2)
    clear hown h2
    go_wp2_with fail
    (with_reducible refine (HS.out).mono ?_)
    rintro _ x ⟨rfl, hK, hb⟩
    have hBx : Below w.heap.size w x := hB.trans (hb.mono hg')
    have HK := Lib.hid hK
    clear hK hb hB
    go_wp2
    go_ret
    have := holdsE_K HK.out (cap := cap') (by simp only [List.size_toArray]; rw [sortS_len]; have := HN.out.1; simpa [this] using hc')
    refine ⟨_, rfl, ?_, (fun g h => by cases h; exact hg'), hBx⟩
    simp only [List.toList_toArray] at this
    rw [sortS_len] at this
    simpa [HN.out.1] using this
end Go.Proofs.YtcilnbkmaoneaaaDoor
