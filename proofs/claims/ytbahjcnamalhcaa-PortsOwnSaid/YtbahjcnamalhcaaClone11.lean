/-
  The program's slices.Clone, of each kind.
-/
import Derived.Test.YtbahjcnamalhcaaObj11
set_option linter.unusedSimpArgs false
set_option linter.unusedVariables false
namespace Go.Proofs.Ytbahjcnamalhcaa
open Go.RowKit Go.PlainAid

theorem Try.infoEn : (Try.prog.info? 58).map (fun i => (i.zero, i.size, i.bytes)) = some (some (.agg #[.int .i64 0, .int .u8 0]), 2, 16) := by kernel_rfl
theorem kca {w u : World} (hb : Below w.heap.size w u) {p : Addr} {v : Value} (h : w.cell? p = some v) : u.cell? p = some v := by
  have hl : p.block < w.heap.size := by
    unfold World.cell? at h
    split at h
    · rename_i hh
      exact (Array.getElem?_eq_some_iff.1 hh).1
    · cases h
  exact (hb.cell hl).trans h
set_option maxRecDepth 100000 in
theorem clone_b (l : List (Int)) (hl : l.length ≤ 100000) (v : Value) (w : World) (hv : HoldsW bE 1 w v l) :
    Calls Try.prog 21 #[v] w fun e w' => ∃ v', e = .returned v' ∧ w'.ownsRow w.heap.size 5 1 v' l.length (l.flatMap bE) ∧ Below w.heap.size w w' := by
  obtain ⟨p, c, rfl⟩ := hv.form
  have hq1 : ∀ (n c : Nat) (W : World), (binOp .eql 22 (.slice none n c) (.slice none 0 0)).run Try.prog W = .ok (.bool true) W := fun n c W => by kernel_rfl
  have hq2 : ∀ (ad : Addr) (n c : Nat) (W : World), (binOp .eql 22 (.slice (some ad) n c) (.slice none 0 0)).run Try.prog W = .ok (.bool false) W := fun ad n c W => by kernel_rfl
  cases p with
  | none =>
    have h0 : l = [] := by
      rcases hv with ⟨_, e⟩ | ⟨g, o, cap, e, _⟩
      · exact e
      · cases e
    subst h0
    clear hv hq2
    have hq := hq1 0 c
    clear hq1
    go_enter Try.func21, Try.ntmps21
    go_wp2
    go_ret
    exact ⟨_, rfl, World.ownsRow_nil _ _ _ _, by go_grown⟩
  | some ad =>
    obtain ⟨g, o, sp⟩ := ad
    have hs : ∀ j u, (l.flatMap bE)[j]? = some u → w.cell? ((⟨g, o, sp⟩ : Addr).add j) = some u := by
      rcases hv with ⟨_, e⟩ | ⟨g', o', cap, e, _, hc⟩
      · subst e; intro j u hu; simp at hu
      · injection e with e1 e2 e3
        injection e1 with e1
        cases e1
        exact holds_flat bE_len (by omega) hc
    have HC := Lib.hid hs
    obtain ⟨n, hn⟩ : ∃ n, l.length = n := ⟨_, rfl⟩
    have HN := Lib.hid (And.intro hn hl)
    clear hv hs hl hq1
    rw [hn]
    clear hn
    have hq := hq2 ⟨g, o, sp⟩ n c
    clear hq2
    obtain ⟨i0, hi, hz0, hz1, hz2⟩ := info_parts Try.infoU8
    go_enter Try.func21, Try.ntmps21
    go_wp2_with (at_builtin; refine wpList_append_own _ rfl _ _ 22 rfl w.heap.size 5 i0 _ 1 1 Try.underlying22 hi hz0 hz1 hz2 rfl (by decide) _ 0 [] rfl ?c0 ⟨g, o, sp⟩ n c (l.flatMap bE) rfl ?c1 ?c2 ?c3 ?c4 ?c5 ?c6 ?_)
    case c0 => exact ⟨rfl, .inr ⟨w.heap.size, 0, #[], rfl, Nat.le_refl _, heap_alloc_new _ _, Nat.le_refl _, by decide, rfl, rfl⟩⟩
    case c1 => rw [flat_len8 bE_len, HN.out.1]
    case c2 =>
      intro j u hu
      exact kca ((Below.refl _ w).alloc (Nat.le_refl _) _) (HC.out j u hu)
    case c3 => exact one_cells8 bE_one _
    case c4 => have := HN.out; unfold maxLen; omega
    case c5 => have := HN.out; omega
    case c6 => simp
    intro v' w' hown' hg hnn
    have hBw : Below w.heap.size w w' := Below.grown ((Below.refl _ w).alloc (Nat.le_refl _) _) hg (by simp) (fun k hk => by cases hk; exact Nat.le_refl _)
    have HO := Lib.hid hown'
    have hf := own_form hown'
    obtain ⟨p', c', rfl⟩ := hf
    clear hown' hg hnn
    go_wp2
    go_ret
    exact ⟨_, rfl, by simpa using HO.out, hBw⟩
set_option maxRecDepth 100000 in
theorem clone_k (l : List (Int × Int)) (hl : l.length ≤ 100000) (v : Value) (w : World) (hv : HoldsW kE 2 w v l) :
    Calls Try.prog 25 #[v] w fun e w' => ∃ v', e = .returned v' ∧ w'.ownsRow w.heap.size 40 2 v' l.length (l.flatMap kE) ∧ Below w.heap.size w w' := by
  obtain ⟨p, c, rfl⟩ := hv.form
  have hq1 : ∀ (n c : Nat) (W : World), (binOp .eql 33 (.slice none n c) (.slice none 0 0)).run Try.prog W = .ok (.bool true) W := fun n c W => by kernel_rfl
  have hq2 : ∀ (ad : Addr) (n c : Nat) (W : World), (binOp .eql 33 (.slice (some ad) n c) (.slice none 0 0)).run Try.prog W = .ok (.bool false) W := fun ad n c W => by kernel_rfl
  cases p with
  | none =>
    have h0 : l = [] := by
      rcases hv with ⟨_, e⟩ | ⟨g, o, cap, e, _⟩
      · exact e
      · cases e
    subst h0
    clear hv hq2
    have hq := hq1 0 c
    clear hq1
    go_enter Try.func25, Try.ntmps25
    go_wp2
    go_ret
    exact ⟨_, rfl, World.ownsRow_nil _ _ _ _, by go_grown⟩
  | some ad =>
    obtain ⟨g, o, sp⟩ := ad
    have hs : ∀ j u, (l.flatMap kE)[j]? = some u → w.cell? ((⟨g, o, sp⟩ : Addr).add j) = some u := by
      rcases hv with ⟨_, e⟩ | ⟨g', o', cap, e, _, hc⟩
      · subst e; intro j u hu; simp at hu
      · injection e with e1 e2 e3
        injection e1 with e1
        cases e1
        exact holds_flat kE_len (by omega) hc
    have HC := Lib.hid hs
    obtain ⟨n, hn⟩ : ∃ n, l.length = n := ⟨_, rfl⟩
    have HN := Lib.hid (And.intro hn hl)
    clear hv hs hl hq1
    rw [hn]
    clear hn
    have hq := hq2 ⟨g, o, sp⟩ n c
    clear hq2
    obtain ⟨i0, hi, hz0, hz1, hz2⟩ := info_parts Try.infoBy
    go_enter Try.func25, Try.ntmps25
    go_wp2_with (at_builtin; refine wpList_append_own _ rfl _ _ 33 rfl w.heap.size 40 i0 _ 2 2 Try.underlying33 hi hz0 hz1 hz2 rfl (by decide) _ 0 [] rfl ?c0 ⟨g, o, sp⟩ n c (l.flatMap kE) rfl ?c1 ?c2 ?c3 ?c4 ?c5 ?c6 ?_)
    case c0 => exact ⟨rfl, .inr ⟨w.heap.size, 0, #[], rfl, Nat.le_refl _, heap_alloc_new _ _, Nat.le_refl _, by decide, rfl, rfl⟩⟩
    case c1 => rw [flat_len8 kE_len, HN.out.1]
    case c2 =>
      intro j u hu
      exact kca ((Below.refl _ w).alloc (Nat.le_refl _) _) (HC.out j u hu)
    case c3 => exact one_cells8 kE_one _
    case c4 => have := HN.out; unfold maxLen; omega
    case c5 => have := HN.out; omega
    case c6 => simp
    intro v' w' hown' hg hnn
    have hBw : Below w.heap.size w w' := Below.grown ((Below.refl _ w).alloc (Nat.le_refl _) _) hg (by simp) (fun k hk => by cases hk; exact Nat.le_refl _)
    have HO := Lib.hid hown'
    have hf := own_form hown'
    obtain ⟨p', c', rfl⟩ := hf
    clear hown' hg hnn
    go_wp2
    go_ret
    exact ⟨_, rfl, by simpa using HO.out, hBw⟩
set_option maxRecDepth 100000 in
theorem clone_e (l : List (Int × Int)) (hl : l.length ≤ 100000) (v : Value) (w : World) (hv : HoldsW eE 2 w v l) :
    Calls Try.prog 26 #[v] w fun e w' => ∃ v', e = .returned v' ∧ w'.ownsRow w.heap.size 58 2 v' l.length (l.flatMap eE) ∧ Below w.heap.size w w' := by
  obtain ⟨p, c, rfl⟩ := hv.form
  have hq1 : ∀ (n c : Nat) (W : World), (binOp .eql 55 (.slice none n c) (.slice none 0 0)).run Try.prog W = .ok (.bool true) W := fun n c W => by kernel_rfl
  have hq2 : ∀ (ad : Addr) (n c : Nat) (W : World), (binOp .eql 55 (.slice (some ad) n c) (.slice none 0 0)).run Try.prog W = .ok (.bool false) W := fun ad n c W => by kernel_rfl
  cases p with
  | none =>
    have h0 : l = [] := by
      rcases hv with ⟨_, e⟩ | ⟨g, o, cap, e, _⟩
      · exact e
      · cases e
    subst h0
    clear hv hq2
    have hq := hq1 0 c
    clear hq1
    go_enter Try.func26, Try.ntmps26
    go_wp2
    go_ret
    exact ⟨_, rfl, World.ownsRow_nil _ _ _ _, by go_grown⟩
  | some ad =>
    obtain ⟨g, o, sp⟩ := ad
    have hs : ∀ j u, (l.flatMap eE)[j]? = some u → w.cell? ((⟨g, o, sp⟩ : Addr).add j) = some u := by
      rcases hv with ⟨_, e⟩ | ⟨g', o', cap, e, _, hc⟩
      · subst e; intro j u hu; simp at hu
      · injection e with e1 e2 e3
        injection e1 with e1
        cases e1
        exact holds_flat eE_len (by omega) hc
    have HC := Lib.hid hs
    obtain ⟨n, hn⟩ : ∃ n, l.length = n := ⟨_, rfl⟩
    have HN := Lib.hid (And.intro hn hl)
    clear hv hs hl hq1
    rw [hn]
    clear hn
    have hq := hq2 ⟨g, o, sp⟩ n c
    clear hq2
    obtain ⟨i0, hi, hz0, hz1, hz2⟩ := info_parts Try.infoEn
    go_enter Try.func26, Try.ntmps26
    go_wp2_with (at_builtin; refine wpList_append_own _ rfl _ _ 55 rfl w.heap.size 58 i0 _ 2 16 Try.underlying55 hi hz0 hz1 hz2 rfl (by decide) _ 0 [] rfl ?c0 ⟨g, o, sp⟩ n c (l.flatMap eE) rfl ?c1 ?c2 ?c3 ?c4 ?c5 ?c6 ?_)
    case c0 => exact ⟨rfl, .inr ⟨w.heap.size, 0, #[], rfl, Nat.le_refl _, heap_alloc_new _ _, Nat.le_refl _, by decide, rfl, rfl⟩⟩
    case c1 => rw [flat_len8 eE_len, HN.out.1]
    case c2 =>
      intro j u hu
      exact kca ((Below.refl _ w).alloc (Nat.le_refl _) _) (HC.out j u hu)
    case c3 => exact one_cells8 eE_one _
    case c4 => have := HN.out; unfold maxLen; omega
    case c5 => have := HN.out; omega
    case c6 => simp
    intro v' w' hown' hg hnn
    have hBw : Below w.heap.size w w' := Below.grown ((Below.refl _ w).alloc (Nat.le_refl _) _) hg (by simp) (fun k hk => by cases hk; exact Nat.le_refl _)
    have HO := Lib.hid hown'
    have hf := own_form hown'
    obtain ⟨p', c', rfl⟩ := hf
    clear hown' hg hnn
    go_wp2
    go_ret
    exact ⟨_, rfl, by simpa using HO.out, hBw⟩
end Go.Proofs.Ytbahjcnamalhcaa
