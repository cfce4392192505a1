/-
  MemorySecrets: the range over Secret's iterator; what is asked of the clone.
-/
import Derived.Test.YtoakgchfdihjbaaDoorCount8
import Derived.Test.YtoakgchfdihjbaaDoorDoes8
set_option linter.unusedSimpArgs false
set_option linter.unusedVariables false
namespace Go.Proofs.YtoakgchfdihjbaaDoor
open Go.RowKit Go.PlainAid Go.Shelf
attribute [local go_sem] Oper.semAt_some

theorem few_all2 {l : List OpR} (h : fewO l = true) : l.length ≤ 30 ∧ ∀ x ∈ l, bigO x = false := by
  unfold fewO at h
  rw [Bool.and_eq_true, decide_eq_true_eq] at h
  refine ⟨by omega, fun x hx => ?_⟩
  have := List.all_eq_true.1 h.1 x hx
  simpa using this
theorem sec_not_nil2 (B : Nat) (w : World) : (binOp .eql 43 (secF B) .nilFunc).run Tryd.prog w = .ok (.bool false) w := by
  unfold secF
  kernel_rfl
/-- An empty row of the document's, and a variable that leads to it. -/
theorem rm_new2 (W : World) (o : Obj) : Rm W.heap.size (W.heap.size + 1 + 1) ((W.alloc (.cells #[.slice none 0 0] 30)).alloc o) [] (.slice none 0 0) := by
  refine ⟨by go_simp, ?_, by go_simp, by omega, by simp⟩
  exact World.ownsRow_nil _ _ _ _
/-- A range over Secret's iterator whose second variable lies in a block of its own: what the body meets. -/
def AxS (M : Int → Int × Int) (a : Act) (q1 q2 : Nat) (lo p1 p2 : Nat) (x : SecB M) (a' : Act) (W : World) : Prop :=
  ∃ Bx, lo < Bx ∧ (W.cell? ⟨Bx, 0, none⟩ = some (.int .u8 (M (x.1 : Int)).1) ∧ W.cell? ⟨Bx, 1, none⟩ = some (.int .u8 (M (x.1 : Int)).2)) ∧
    a' = { tmps := (((a.tmps.setIfInBounds q1 (.int .i64 ((x.1 : Nat) : Int))).setIfInBounds q2 (.agg #[.int .u8 (M (x.1 : Int)).1, .int .u8 (M (x.1 : Int)).2])).setIfInBounds p1 (.int .i64 ((x.1 : Nat) : Int))).setIfInBounds p2 (.pointer (some ⟨Bx, 0, none⟩)), defers := [] }
theorem axS_own (M : Int → Int × Int) (a : Act) (q1 q2 lo p1 p2 N : Nat) (x : SecB M) (a' : Act) : OwnFrom N (fun (_ : Unit) W => AxS M a q1 q2 lo p1 p2 x a' W) :=
  fun _ A C row hs hg hr => by
    obtain ⟨Bx, h1, ⟨c1, c2⟩, h3⟩ := hs
    exact ⟨Bx, h1, ⟨cell_kept c1 hg (fun r e => (hr r e).2), cell_kept c2 hg (fun r e => (hr r e).2)⟩, h3⟩
/-- What the law's own variables hold, many and last, between two rounds. -/
def SE (D n : Nat) (t : Int) (W : World) : Prop := W.cell? ⟨D, 0, none⟩ = some (.int .i64 (n : Int)) ∧ W.cell? ⟨D + 1, 0, none⟩ = some (.int .i64 t) ∧ W.frozen? ⟨D, 0, none⟩ = false ∧ W.frozen? ⟨D + 1, 0, none⟩ = false
theorem SE.own {β : Type} (D : Nat) (f : β → Nat) (g : β → Int) : Own (fun s W => SE D (f s) (g s) W) := fun s A C row ⟨h1, h2, g1, g2⟩ hg hr =>
  ⟨cell_kept h1 hg hr, cell_kept h2 hg hr, (frozen_kept h1 hg hr).trans g1, (frozen_kept h2 hg hr).trans g2⟩
theorem SE.below {D n : Nat} {t : Int} {W U : World} (h : SE D n t W) (hb : Below W.heap.size W U) : SE D n t U := by
  obtain ⟨h1, h2, g1, g2⟩ := h
  exact ⟨kc hb h1, kc hb h2, kfz hb (klt h1) g1, kfz hb (klt h2) g2⟩
theorem keeps_below {W u : World} (hb : Below W.heap.size W u) : KeepsOthers W u := ⟨hb.size, fun k o hk _ => (hb.block k (Array.getElem?_eq_some_iff.1 hk).1).trans hk⟩
theorem wpIn_rangeS {P : Program} {g : Operand} {ps : Array Tmp} {assign body : Code} {Q : Exit → Act → World → Prop} {a : Act} {w : World} {n : Nat} {M : Int → Int × Int}
    (h1 : 1 ≤ n) {gf : Nat} {lb : Array Value} (hg : a.eval g = .func (.func gf) #[] lb) (eg : ∀ args w, (callFunc gf args).run P w = .ok (.enter gf args) w) (q1 q2 lo p1 p2 n0 D : Nat) (wd : World)
    (hseq : SeqStopsK Fence.wide (n - 1) P gf lb (encS M) (Below n0) (fun xs => xs = upS M 65536) (fun pre => ∃ k, k ≤ 65536 ∧ pre = upS M k) 70000 w)
    (hn0 : n0 ≤ w.heap.size) (hps : ps.size = 2) (hwd : wd.heap.size ≤ w.heap.size) (hbw : Below wd.heap.size wd w) (h0 : SE D 0 (-1) w)
    (hassign : ∀ (l : Nat) (pre : List (SecB M)) (x : SecB M) (W : World) (K : Act → World → Prop), ((stS pre).1 = true ∧ SE D pre.length (stS pre).2 W) ∧ Below wd.heap.size wd W → (∀ a' W', KeepsFrom w.heap.size W W' → Below n0 W W' → ((stS pre).1 = true ∧ SE D pre.length (stS pre).2 W') ∧ Below wd.heap.size wd W' → AxS M a q1 q2 lo p1 p2 x a' W' → K a' W') →
      assign.wpIn (Fence.wide.inRound l) (n - 1 - 1) P (Exit.then K (fun _ _ _ => False)) { tmps := (ps.zip (encS M x)).foldl (fun t (p, v) => t.setIfInBounds p v) a.tmps, defers := [] } W)
    (hbody : ∀ (l : Nat) (pre : List (SecB M)) (x : SecB M) (a' : Act) (W : World), w.heap.size ≤ l → (∃ r, W.heap[l]? = some (.loop r)) → ((stS pre).1 = true ∧ SE D pre.length (stS pre).2 W) ∧ Below wd.heap.size wd W → AxS M a q1 q2 lo p1 p2 x a' W → pre.length < 70000 →
      body.wpIn (Fence.wide.inRound l) (n - 1 - 1) P (ownPostG w.heap.size (Below n0) (fun pre W => ((stS pre).1 = true ∧ SE D pre.length (stS pre).2 W) ∧ Below wd.heap.size wd W) (fun c pre W => c = .ret ∧ (stS pre).1 = false) (pre ++ [x]) W) a' W)
    (hdone : ∀ (Dd : Nat) (W : World), w.heap.size ≤ Dd → SE D (upS M 65536).length (stS (upS M 65536)).2 W → Below wd.heap.size wd W → W.heap[Dd]? = some (.deferred (some [])) → Q .normal { a with defers := { target := .collected Dd, args := #[] } :: a.defers } W) :
    (Code.rangeFunc g ps assign body).wp P Q a w := by
  refine (wpIn_wide (n := n)).1 ?_
  exact wpIn_rangeFunc_ownH rfl h1 (gf := gf) (lb := lb) hg trivial eg hseq belowK_t (belowK_b hn0) (Below.refl _ _) (fun x => by rw [hps]; rfl)
    (fun pre W => ((stS pre).1 = true ∧ SE D pre.length (stS pre).2 W) ∧ Below wd.heap.size wd W)
    (fun c pre W => c = .ret ∧ (stS pre).1 = false)
    (OwnFrom.and (Own.from (fun s A C row hs hg hr => ⟨hs.1, SE.own D (fun pre => pre.length) (fun pre => (stS pre).2) s A C row hs.2 hg hr⟩) _) (ownFrom_below (Nat.le_refl _) hwd))
    (fun c => fun _ _ _ _ h _ _ => h)
    ⟨⟨rfl, h0⟩, hbw⟩
    (AxS M a q1 q2 lo p1 p2) (fun x a' => axS_own M a q1 q2 lo p1 p2 _ x a')
    hassign hbody
    (fun Dd xs W hD hxs hI hK => by subst hxs; exact hdone Dd W hD hI.1.2 hI.2 hK)
    (fun Dd c pre W hD hSp hIx hK => by
      obtain ⟨k, hk, rfl⟩ := hSp
      rw [(stS_up M k).1] at hIx
      cases hIx.2)
/-- Behind the range: how many are left, the range's record, what is as it was. -/
structure DM (D Dd : Nat) (wd : World) (c : Int) (W : World) : Prop where
  c : W.cell? ⟨D, 0, none⟩ = some (.int .i64 c)
  f : W.frozen? ⟨D, 0, none⟩ = false
  d : W.heap[Dd]? = some (.deferred (some []))
  b : Below wd.heap.size wd W
theorem DM.below {D Dd : Nat} {wd W U : World} {c : Int} (h : DM D Dd wd c W) (hb : Below W.heap.size W U) : DM D Dd wd c U :=
  ⟨kc hb h.c, kfz hb (klt h.c) h.f, (hb.block Dd (Array.getElem?_eq_some_iff.1 h.d).1).trans h.d, h.b.trans (hb.mono h.b.size)⟩
theorem DM.set {D Dd : Nat} {wd W : World} {c : Int} (h : DM D Dd wd c W) (c' : Int) (hD : wd.heap.size ≤ D) (hne : D ≠ Dd) : DM D Dd wd c' (W.setCell ⟨D, 0, none⟩ (.int .i64 c')) :=
  ⟨World.cell?_setCell_same _ _ _ h.c, by rw [World.frozen?_setCell]; exact h.f, (heap_setCell_other W ⟨D, 0, none⟩ Dd _ (fun e => hne e.symm)).trans h.d, h.b.setCell (p := ⟨D, 0, none⟩) hD _⟩
/-- What is asked of the clone that was written. -/
theorem sec_mode {M : Int → Int × Int} {L : List Pt} (h : Good M L) (a v t : Int) :
    (((writeM M a v t).1 == 0) = false) ∨ ((writeM M a v t).1 = 0 ∧ ramB a = false) ∨ ((writeM M a v t).1 = 0 ∧ ramB a = true ∧ sameM M (writeM M a v t).2 = sameI (atP L a) (v, t)) := by
  rcases kindI_cases a a with ⟨k, h1, _⟩ | ⟨k, h1, _⟩ | ⟨k, h1, _⟩ | ⟨k, h1, _⟩ | ⟨k, h1, h2, h3, h4⟩
  · right; right
    have hr : 0 ≤ a ∧ a < 32768 := by unfold ramB at h1; simp at h1; omega
    obtain ⟨j, rfl⟩ : ∃ j : Nat, a = (j : Int) := ⟨a.toNat, by omega⟩
    have e : writeM M (j : Int) v t = (0, setM M (j : Int) (v, t)) := by
      unfold writeM
      rw [k, if_neg (by decide), if_neg (by decide), if_pos rfl]
    rw [e]
    exact ⟨rfl, h1, by rw [same_one M j (by omega), atP_real h.co (by unfold realB; rw [h1]; rfl)]⟩
  · left
    unfold writeM
    rw [k]; rfl
  · right; left
    unfold writeM
    rw [k]
    exact ⟨rfl, by unfold ramB; simp; omega⟩
  · right; left
    unfold writeM
    rw [k]
    exact ⟨rfl, by unfold romB at h1; unfold ramB; simp at h1 ⊢; omega⟩
  · left
    unfold writeM
    rw [k]; rfl
end Go.Proofs.YtoakgchfdihjbaaDoor
