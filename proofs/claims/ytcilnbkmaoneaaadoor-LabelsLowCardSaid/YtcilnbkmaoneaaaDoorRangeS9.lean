/-
  A range over Secret's iterator whose second variable lies in a block of its own.
-/
import Derived.Test.YtcilnbkmaoneaaaDoorLoads9
import Derived.Test.YtcilnbkmaoneaaaDoorFin9
import Derived.Test.YtcilnbkmaoneaaaDoorSame9
import Derived.Test.YtcilnbkmaoneaaaDoorPlanI
set_option linter.unusedSimpArgs false
set_option linter.unusedVariables false
namespace Go.Proofs.YtcilnbkmaoneaaaDoor
open Go.RowKit Go.PlainAid Go.Shelf
attribute [local go_sem] Oper.semAt_some

/-- What the body meets. -/
def AxM (M : Int → Int × Int) (a : Act) (q1 q2 : Nat) (lo p1 p2 : Nat) (x : SecB M) (a' : Act) (W : World) : Prop :=
  ∃ Bx, lo < Bx ∧ (W.cell? ⟨Bx, 0, none⟩ = some (.int .u8 (M (x.1 : Int)).1) ∧ W.cell? ⟨Bx, 1, none⟩ = some (.int .u8 (M (x.1 : Int)).2)) ∧
    a' = { tmps := (((a.tmps.setIfInBounds q1 (.int .i64 ((x.1 : Nat) : Int))).setIfInBounds q2 (.agg #[.int .u8 (M (x.1 : Int)).1, .int .u8 (M (x.1 : Int)).2])).setIfInBounds p1 (.int .i64 ((x.1 : Nat) : Int))).setIfInBounds p2 (.pointer (some ⟨Bx, 0, none⟩)), defers := [] }
theorem axM_own (M : Int → Int × Int) (a : Act) (q1 q2 lo p1 p2 N : Nat) (x : SecB M) (a' : Act) : OwnFrom N (fun (_ : Unit) W => AxM M a q1 q2 lo p1 p2 x a' W) :=
  fun _ A C row hs hg hr => by
    obtain ⟨Bx, h1, ⟨c1, c2⟩, h3⟩ := hs
    exact ⟨Bx, h1, ⟨cell_kept c1 hg (fun r e => (hr r e).2), cell_kept c2 hg (fun r e => (hr r e).2)⟩, h3⟩
theorem sec_not_nil9 (B : Nat) (w : World) : (binOp .eql 39 (secF B) .nilFunc).run Tryd.prog w = .ok (.bool false) w := by
  unfold secF
  kernel_rfl
/-- A range that no body leaves. -/
theorem wpIn_rangeM {P : Program} {g : Operand} {ps : Array Tmp} {assign body : Code} {Q : Exit → Act → World → Prop} {a : Act} {w : World} {n : Nat} {M : Int → Int × Int}
    (h1 : 1 ≤ n) {gf : Nat} {lb : Array Value} (hg : a.eval g = .func (.func gf) #[] lb) (eg : ∀ args w, (callFunc gf args).run P w = .ok (.enter gf args) w) (q1 q2 lo p1 p2 n0 : Nat)
    (hseq : SeqStopsK Fence.wide (n - 1) P gf lb (encS M) (Below n0) (fun xs => xs = upS M 65536) (fun pre => ∃ k, k ≤ 65536 ∧ pre = upS M k) 70000 w)
    (hn0 : n0 ≤ w.heap.size) (hps : ps.size = 2) (I : List (SecB M) → World → Prop) (hI : OwnFrom w.heap.size I) (h0 : I [] w)
    (hassign : ∀ (l : Nat) (pre : List (SecB M)) (x : SecB M) (W : World) (K : Act → World → Prop), I pre W → (∀ a' W', KeepsFrom w.heap.size W W' → Below n0 W W' → I pre W' → AxM M a q1 q2 lo p1 p2 x a' W' → K a' W') →
      assign.wpIn (Fence.wide.inRound l) (n - 1 - 1) P (Exit.then K (fun _ _ _ => False)) { tmps := (ps.zip (encS M x)).foldl (fun t (p, v) => t.setIfInBounds p v) a.tmps, defers := [] } W)
    (hbody : ∀ (l : Nat) (pre : List (SecB M)) (x : SecB M) (a' : Act) (W : World), w.heap.size ≤ l → (∃ r, W.heap[l]? = some (.loop r)) → I pre W → AxM M a q1 q2 lo p1 p2 x a' W → pre.length < 70000 →
      body.wpIn (Fence.wide.inRound l) (n - 1 - 1) P (ownPostG w.heap.size (Below n0) I (fun _ _ _ => False) (pre ++ [x]) W) a' W)
    (hdone : ∀ (Dd : Nat) (W : World), w.heap.size ≤ Dd → I (upS M 65536) W → W.heap[Dd]? = some (.deferred (some [])) → Q .normal { a with defers := { target := .collected Dd, args := #[] } :: a.defers } W) :
    (Code.rangeFunc g ps assign body).wp P Q a w := by
  refine (wpIn_wide (n := n)).1 ?_
  exact wpIn_rangeFunc_ownH rfl h1 (gf := gf) (lb := lb) hg trivial eg hseq belowK_t (belowK_b hn0) (Below.refl _ _) (fun x => by rw [hps]; rfl)
    I (fun _ _ _ => False) hI (fun c => fun _ _ _ _ h _ _ => h) h0 (AxM M a q1 q2 lo p1 p2) (fun x a' => axM_own M a q1 q2 lo p1 p2 _ x a') hassign hbody
    (fun Dd xs W hD hxs hi hK => by subst hxs; exact hdone Dd W hD hi hK)
    (fun Dd c pre W hD hSp hi hK => hi.elim)
theorem read_real9 {M : Int → Int × Int} {a : Int} (h : (0 ≤ a ∧ a < 32768) ∨ (49152 ≤ a ∧ a < 65536)) : prM M a = ⟨(M a).1, (M a).2, 0⟩ := by
  unfold prM
  rcases kindI_cases a a with ⟨k, _⟩ | ⟨k, h1, _⟩ | ⟨k, h1, _⟩ | ⟨k, _⟩ | ⟨k, h1⟩
  · simp [k]
  · unfold devB at h1; simp at h1; omega
  · omega
  · simp [k]
  · rcases h with h | h
    · exact absurd ⟨by unfold ramB; simp; omega, by unfold ramB; simp; omega⟩ h1.1
    · exact absurd ⟨by unfold romB; simp; omega, by unfold romB; simp; omega⟩ h1.2.2.2
end Go.Proofs.YtcilnbkmaoneaaaDoor
