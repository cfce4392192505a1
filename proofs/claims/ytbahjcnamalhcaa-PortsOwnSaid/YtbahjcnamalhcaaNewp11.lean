/-
  The program's New; what it makes.
-/
import Derived.Test.YtbahjcnamalhcaaSecr11
import Derived.Test.YtbahjcnamalhcaaWritep11
set_option linter.unusedSimpArgs false
set_option linter.unusedVariables false
namespace Go.Proofs.Ytbahjcnamalhcaa
open Go.RowKit Go.PlainAid

/-- A new block of five slices, over rows of their own. -/
theorem po_new {S : Po} {x y a b c : Value} {w W : World} (hB : Below w.heap.size w W) (hx : W.ownsRow w.heap.size 5 1 x S.pub.length (S.pub.flatMap bE)) (hy : W.ownsRow w.heap.size 40 2 y (secT S.sec).length ((secT S.sec).flatMap kE))
    (ha : W.ownsRow w.heap.size 5 1 a S.out.length (S.out.flatMap bE)) (hb : W.ownsRow w.heap.size 40 2 b S.kept.length (S.kept.flatMap kE)) (hc : W.ownsRow w.heap.size 58 2 c S.log.length (S.log.flatMap eE))
    (s1 : ∀ k, x.ownBlock = some k → a.ownBlock ≠ some k ∧ b.ownBlock ≠ some k ∧ c.ownBlock ≠ some k) (s2 : ∀ k, y.ownBlock = some k → a.ownBlock ≠ some k ∧ b.ownBlock ≠ some k ∧ c.ownBlock ≠ some k)
    (s3 : ∀ k, a.ownBlock = some k → b.ownBlock ≠ some k ∧ c.ownBlock ≠ some k) (s4 : ∀ k, b.ownBlock = some k → c.ownBlock ≠ some k) (T : TypeId) :
    ∃ F G, PO W.heap.size S F G (W.alloc (.cells #[x, y, a, b, c] T)) ∧ (∀ k, G k → w.heap.size ≤ k) := by
  have hz := hB.size
  have hw : Below W.heap.size W (W.alloc (.cells #[x, y, a, b, c] T)) := (Below.refl _ _).alloc (Nat.le_refl _) _
  have lx := hx.lt
  have ly := hy.lt
  have la := ha.lt
  have lb := hb.lt
  have lc := hc.lt
  have hcell : ∀ i u, (#[x, y, a, b, c] : Array Value)[i]? = some u → (W.alloc (.cells #[x, y, a, b, c] T)).cell? ⟨W.heap.size, i, none⟩ = some u := fun i u hu => by
    rw [cell_of_row _ _ _ _ _ _ (heap_alloc_new W (.cells #[x, y, a, b, c] T))]; exact hu
  have hfr : ∀ i, (W.alloc (.cells #[x, y, a, b, c] T)).frozen? ⟨W.heap.size, i, none⟩ = false := fun i => frozen_of_row _ _ _ _ _ (heap_alloc_new W (.cells #[x, y, a, b, c] T))
  have hfoot : ∀ k, foot W.heap.size (rP S a b c) k → k = W.heap.size ∨ a.ownBlock = some k ∨ b.ownBlock = some k ∨ c.ownBlock = some k := fun k hk => by
    rcases hk with rfl | ⟨r, hr, hk⟩
    · exact .inl rfl
    · simp only [rP, List.mem_cons, List.mem_nil_iff, or_false] at hr
      rcases hr with rfl | rfl | rfl
      · exact .inr (.inl hk)
      · exact .inr (.inr (.inl hk))
      · exact .inr (.inr (.inr hk))
  have hold : Hold W.heap.size (rP S a b c) (W.alloc (.cells #[x, y, a, b, c] T)) := by
    refine ⟨by simp, fun i r hr => ?_, fun i r hr => ?_, fun i j r s hr hs hij => ?_⟩
    · match i, hr with
      | 0, hr => cases hr; exact ⟨hcell 2 _ rfl, hfr 2⟩
      | 1, hr => cases hr; exact ⟨hcell 3 _ rfl, hfr 3⟩
      | 2, hr => cases hr; exact ⟨hcell 4 _ rfl, hfr 4⟩
      | n + 3, hr => simp [rP] at hr
    · match i, hr with
      | 0, hr => cases hr; exact ⟨own_low (own_below ha hw) (Nat.zero_le _), fun e => by have := la _ e; omega⟩
      | 1, hr => cases hr; exact ⟨own_low (own_below hb hw) (Nat.zero_le _), fun e => by have := lb _ e; omega⟩
      | 2, hr => cases hr; exact ⟨own_low (own_below hc hw) (Nat.zero_le _), fun e => by have := lc _ e; omega⟩
      | n + 3, hr => simp [rP] at hr
    · match i, j, hr, hs with
      | 0, 0, _, _ => exact absurd rfl hij
      | 1, 1, _, _ => exact absurd rfl hij
      | 2, 2, _, _ => exact absurd rfl hij
      | 0, 1, hr, hs => cases hr; cases hs; exact ⟨by dsimp only; omega, fun k hk => (s3 k hk).1⟩
      | 0, 2, hr, hs => cases hr; cases hs; exact ⟨by dsimp only; omega, fun k hk => (s3 k hk).2⟩
      | 1, 0, hr, hs => cases hr; cases hs; exact ⟨by dsimp only; omega, fun k hk e => (s3 k e).1 hk⟩
      | 1, 2, hr, hs => cases hr; cases hs; exact ⟨by dsimp only; omega, fun k hk => s4 k hk⟩
      | 2, 0, hr, hs => cases hr; cases hs; exact ⟨by dsimp only; omega, fun k hk e => (s3 k e).2 hk⟩
      | 2, 1, hr, hs => cases hr; cases hs; exact ⟨by dsimp only; omega, fun k hk e => s4 k e hk⟩
      | n + 3, _, hr, _ => simp [rP] at hr
      | 0, n + 3, _, hs => simp [rP] at hs
      | 1, n + 3, _, hs => simp [rP] at hs
      | 2, n + 3, _, hs => simp [rP] at hs
  refine ⟨_, _, ⟨x, y, a, b, c, ⟨hold, ⟨hcell 0 _ rfl, hfr 0, (HoldsW.own bE_len hx).below hw, fun _ k hk hf => ?_⟩, ⟨hcell 1 _ rfl, hfr 1, (HoldsW.own kE_len hy).below hw, fun _ k hk hf => ?_⟩⟩, rfl, rfl⟩, fun k hk => ?_⟩
  · rcases hfoot k hf with h | h | h | h
    · have := lx k hk; omega
    · exact (s1 k hk).1 h
    · exact (s1 k hk).2.1 h
    · exact (s1 k hk).2.2 h
  · rcases hfoot k hf with h | h | h | h
    · have := ly k hk; omega
    · exact (s2 k hk).1 h
    · exact (s2 k hk).2.1 h
    · exact (s2 k hk).2.2 h
  · rcases hk with hk | ⟨_, hk⟩ | ⟨_, hk⟩
    · rcases hfoot k hk with h | h | h | h
      · omega
      · exact (la k h).1
      · exact (lb k h).1
      · exact (lc k h).1
    · exact (lx k hk).1
    · exact (ly k hk).1
/-- What New and Clone answer: ports in memory of their own. -/
def NewEnd (S : Po) (pack : Value → Value) (w : World) : Ending → World → Prop := fun e w' => ∃ pb F G, e = .returned (pack (.pointer (some ⟨pb, 0, none⟩))) ∧ PO pb S F G w' ∧ (∀ k, G k → w.heap.size ≤ k) ∧ w.heap.size ≤ pb ∧ Below w.heap.size w w'
def okV (v : Value) : Value := .tuple #[v, .int .i64 0]
set_option maxRecDepth 100000 in
theorem newp_long (p s : Nat) (a b : Option Addr) (ca cb : Nat) (h : 65536 < p ∨ 65536 < s) (w : World) :
    Calls Try.prog 9 #[.slice a p ca, .slice b s cb] w fun e w' => e = .returned (.tuple #[.pointer none, .int .i64 12]) ∧ Below w.heap.size w w' := by
  by_cases h1 : 65536 < p
  · have d1 : (65536 : Int) < (p : Int) := by omega
    go_enter Try.func9, Try.ntmps9
    go_wp2
    go_ret2
    exact ⟨rfl, by go_grown⟩
  · have d1 : ¬ (65536 : Int) < (p : Int) := by omega
    have d2 : (65536 : Int) < (s : Int) := by omega
    go_enter Try.func9, Try.ntmps9
    go_wp2
    go_ret2
    exact ⟨rfl, by go_grown⟩
set_option maxRecDepth 100000 in
set_option maxHeartbeats 1000000 in
theorem newp_c (lp ls : List Int) (h1 : lp.length ≤ 65536) (h2 : ls.length ≤ 65536) (v1 v2 : Value) (w : World) (hv1 : HoldsW bE 1 w v1 lp) (hv2 : HoldsW bE 1 w v2 ls) :
    Calls Try.prog 9 #[v1, v2] w (NewEnd ⟨lp, ls, [], [], [], []⟩ okV w) := by
  obtain ⟨p1, c1, rfl⟩ := hv1.form
  obtain ⟨p2, c2, rfl⟩ := hv2.form
  have d1 : ¬ (65536 : Int) < (lp.length : Int) := by omega
  have d2 : ¬ (65536 : Int) < (ls.length : Int) := by omega
  have HC := Lib.hid (clone_b lp (by omega) _ w hv1)
  have HS := Lib.hid (fun W (hW : Below w.heap.size w W) => secrets_c ls h2 _ W (hv2.below hW))
  generalize hlp : lp.length = n1 at *
  generalize hls : ls.length = n2 at *
  have HLP := Lib.hid (And.intro hlp hls)
  clear hv1 hv2 hlp hls h1 h2
  go_enter Try.func9, Try.ntmps9
  go_wp2_with fail
  refine (HC.out).mono ?_
  rintro _ u ⟨vx, rfl, hx, hb⟩
  have hB := Lib.hid hb
  have HX := Lib.hid hx
  have hzu := hb.size
  obtain ⟨px, cx, rfl⟩ := own_form hx
  clear hx hb
  go_wp2_with fail
  refine (HS.out _ hB.out).mono ?_
  rintro _ u2 ⟨vy, rfl, hy, hb⟩
  have HB2 := Lib.hid (kb hB.out hb)
  have hzu2 := hb.size
  have HY := Lib.hid hy
  have HX2 := Lib.hid (own_below HX.out hb)
  obtain ⟨py, cy, rfl⟩ := own_form hy
  clear hy hb
  go_wp2
  go_ret2
  have hn := fun (T : TypeId) (k : Nat) => World.ownsRow_nil u2 w.heap.size T k
  have s0 : ∀ (v : Value) (k : Nat), v.ownBlock = some k → (Value.slice none 0 0).ownBlock ≠ some k ∧ (Value.slice none 0 0).ownBlock ≠ some k ∧ (Value.slice none 0 0).ownBlock ≠ some k := fun v k _ => ⟨by simp [Value.ownBlock], by simp [Value.ownBlock], by simp [Value.ownBlock]⟩
  obtain ⟨F, G, hP, hG⟩ := po_new (S := ⟨lp, ls, [], [], [], []⟩) HB2.out (by dsimp only; rw [HLP.out.1]; exact HX2.out) (own_low HY.out hzu) (hn _ _) (hn _ _) (hn _ _) (s0 _) (s0 _) (fun k h => by simp [Value.ownBlock] at h) (fun k h => by simp [Value.ownBlock] at h) 67
  exact ⟨_, F, G, rfl, hP, hG, HB2.out.size, HB2.out.alloc HB2.out.size _⟩
end Go.Proofs.Ytbahjcnamalhcaa
