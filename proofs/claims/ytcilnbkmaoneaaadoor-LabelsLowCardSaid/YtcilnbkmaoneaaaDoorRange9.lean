/-
  A range over All's iterator.
-/
import Derived.Test.YtcilnbkmaoneaaaDoorAllp9
set_option linter.unusedSimpArgs false
set_option linter.unusedVariables false
namespace Go.Proofs.YtcilnbkmaoneaaaDoor
open Go.RowKit Go.PlainAid Go.Shelf
attribute [local go_sem] Oper.semAt_some

/-- A cell that holds a number, and may be written. -/
def Nc (D : Nat) (v : Int) (W : World) : Prop := W.cell? ⟨D, 0, none⟩ = some (.int .i64 v) ∧ W.frozen? ⟨D, 0, none⟩ = false
theorem Nc.own {β : Type} (D : Nat) (f : β → Int) : Own (fun s W => Nc D (f s) W) := fun s A C row ⟨h1, g1⟩ hg hr => ⟨cell_kept h1 hg hr, (frozen_kept h1 hg hr).trans g1⟩
theorem Nc.below {D : Nat} {v : Int} {W U : World} (h : Nc D v W) (hb : Below W.heap.size W U) : Nc D v U := ⟨kc hb h.1, kfz hb (klt h.1) h.2⟩
theorem Nc.set {D : Nat} {v : Int} {W : World} (h : Nc D v W) (u : Int) : Nc D u (W.setCell ⟨D, 0, none⟩ (.int .i64 u)) := ⟨World.cell?_setCell_same _ _ _ h.1, by rw [World.frozen?_setCell]; exact h.2⟩
theorem keeps_of9 {W u : World} (hb : Below W.heap.size W u) : KeepsOthers W u := ⟨hb.size, fun k o hk _ => (hb.block k (Array.getElem?_eq_some_iff.1 hk).1).trans hk⟩
/-- What the body meets: the two variables. -/
def actA (S : Int → Int) (a : Act) (q1 q2 p1 p2 : Nat) (x : AdB S) : Act :=
  { tmps := (((a.tmps.setIfInBounds q1 (.int .i64 ((x.1 : Nat) : Int))).setIfInBounds q2 (.int .u8 (S (x.1 : Int)))).setIfInBounds p1 (.int .i64 ((x.1 : Nat) : Int))).setIfInBounds p2 (.int .u8 (S (x.1 : Int))), defers := [] }
theorem wpIn_rangeA {P : Program} {g : Operand} {ps : Array Tmp} {assign body : Code} {Q : Exit → Act → World → Prop} {a : Act} {w : World} {n : Nat} {S : Int → Int}
    (h1 : 1 ≤ n) {gf : Nat} {lb : Array Value} (hg : a.eval g = .func (.func gf) #[] lb) (eg : ∀ args w, (callFunc gf args).run P w = .ok (.enter gf args) w) (q1 q2 p1 p2 B tb : Nat)
    (hseq : SeqStopsK Fence.wide (n - 1) P gf lb (encB S) (Kq B tb) (fun xs => xs = upB S 65536) (fun pre => ∃ k, k ≤ 65536 ∧ pre = upB S k) 70000 w)
    (hB : B < w.heap.size) (htb : tb < w.heap.size) (hps : ps.size = 2) (I : List (AdB S) → World → Prop) (Ix : Code → List (AdB S) → World → Prop) (hI : OwnFrom w.heap.size I) (hIx : ∀ c, OwnFrom w.heap.size (Ix c)) (h0 : I [] w)
    (hassign : ∀ (l : Nat) (pre : List (AdB S)) (x : AdB S) (W : World) (K : Act → World → Prop), I pre W → (∀ a' W', KeepsFrom w.heap.size W W' → Kq B tb W W' → I pre W' → a' = actA S a q1 q2 p1 p2 x → K a' W') →
      assign.wpIn (Fence.wide.inRound l) (n - 1 - 1) P (Exit.then K (fun _ _ _ => False)) { tmps := (ps.zip (encB S x)).foldl (fun t (p, v) => t.setIfInBounds p v) a.tmps, defers := [] } W)
    (hbody : ∀ (l : Nat) (pre : List (AdB S)) (x : AdB S) (W : World), w.heap.size ≤ l → (∃ r, W.heap[l]? = some (.loop r)) → I pre W → pre.length < 70000 →
      body.wpIn (Fence.wide.inRound l) (n - 1 - 1) P (ownPostG w.heap.size (Kq B tb) I Ix (pre ++ [x]) W) (actA S a q1 q2 p1 p2 x) W)
    (hdone : ∀ (Dd : Nat) (W : World), w.heap.size ≤ Dd → I (upB S 65536) W → W.heap[Dd]? = some (.deferred (some [])) → Q .normal { a with defers := { target := .collected Dd, args := #[] } :: a.defers } W)
    (hstop : ∀ (Dd : Nat) (c : Code) (k : Nat) (W : World), w.heap.size ≤ Dd → k ≤ 65536 → Ix c (upB S k) W → W.heap[Dd]? = some (.deferred (some [])) → c.wpIn Fence.wide n P Q { a with defers := { target := .collected Dd, args := #[] } :: a.defers } W) :
    (Code.rangeFunc g ps assign body).wp P Q a w := by
  refine (wpIn_wide (n := n)).1 ?_
  exact wpIn_rangeFunc_ownH rfl h1 (gf := gf) (lb := lb) hg trivial eg hseq (fun h g => h.trans g) (Kq.put hB htb) (Below.refl _ _) (fun x => by rw [hps]; rfl) I Ix hI hIx h0
    (fun x a' _ => a' = actA S a q1 q2 p1 p2 x) (fun x a' => fun _ _ _ _ h _ _ => h) hassign
    (fun l pre x a' W hl hr hi ha hlen => by subst ha; exact hbody l pre x W hl hr hi hlen)
    (fun Dd xs W hD hxs hi hK => by subst hxs; exact hdone Dd W hD hi hK)
    (fun Dd c pre W hD hSp hi hK => by obtain ⟨k, hk, rfl⟩ := hSp; exact hstop Dd c k W hD hk hi hK)
end Go.Proofs.YtcilnbkmaoneaaaDoor
