/-
  The program's own table: what stands in it for a byte, call by call.
-/
import Derived.Test.YtcplegelppfdeaaDoorLets
import Derived.Laws.Tables
set_option linter.unusedSimpArgs false
set_option linter.unusedVariables false
namespace Go.Proofs.YtcplegelppfdeaaDoor
open Go.RowKit Go.PlainAid

/-- A byte's name's letters and its mode; none: no letters, 0. -/
def nm (b : Nat) : List UInt8 := match placeL.getD b none with | some n => nameL.getD (n / 13) [] | none => []
def md (b : Nat) : Int := match placeL.getD b none with | some n => ((n % 13 : Nat) : Int) | none => 0
def entC (b : Nat) : Array Value := #[.string ⟨(nm b).toArray⟩, .int .i64 (md b)]
def entV (b : Nat) : Value := .agg (entC b)
def entA : Array Value := ((List.range 256).flatMap fun b => (entC b).toList).toArray

/-- Operations that build of what is there: the frame behind them. -/
def builds (P : Program) : List Oper → Act → Option Act
  | [], a => some a
  | o :: r, a => match o.guard, o.op with
    | none, .build t parts => match P.built t (parts.map fun (i, x) => (i, a.eval x)).toList with
      | some cells => builds P r (a.put o.dst (.agg cells))
      | none => none
    | _, _ => none
section
variable {P : Program} {ops : Array Oper} {Q : Exit → Act → World → Prop} {rest : List Oper} {w : World}
theorem wpList_builds : ∀ (L : List Oper) (a a' : Act), builds P L a = some a' → wpList P ops Q rest a' w → wpList P ops Q (L ++ rest) a w
  | [], a, a', h, hk => by
    simp only [builds, Option.some.injEq] at h
    subst h; exact hk
  | o :: r, a, a', h, hk => by
    unfold builds at h
    split at h
    · rename_i t parts hg ho
      split at h
      · rename_i cells hc
        refine wpList_plain hg fun K hK => ?_
        have hr := run_build w t _ cells hc
        have e : (execOp a.eval o).run P w = .ok (.value (.agg cells)) w := by
          unfold execOp
          rw [ho]
          show Sem.run P (do pure (Next.value (← Instr.build t (parts.map fun (i, x) => (i, a.eval x))))) w = _
          generalize Instr.build t (parts.map fun (i, x) => (i, a.eval x)) = S at hr ⊢
          simp [hr, go_sem]
        unfold Oper.wp
        rw [e]
        exact hK _ _ (wpList_builds r _ a' h hk)
      · exact absurd h (by simp)
    · exact absurd h (by simp)
theorem wpList_val {o : Oper} {a : Act} {w' : World} (v : Value) (hg : o.guard = none) (h : (execOp a.eval o).run P w = .ok (.value v) w') (hk : wpList P ops Q rest (a.put o.dst v) w') : wpList P ops Q (o :: rest) a w :=
  wpList_plain hg fun K hK => by unfold Oper.wp; rw [h]; exact hK _ _ hk
theorem wpList_skp {o : Oper} {a : Act} {w' : World} (hg : o.guard = none) (h : (execOp a.eval o).run P w = .ok .skip w') (hk : wpList P ops Q rest (a.put o.dst undef) w') : wpList P ops Q (o :: rest) a w :=
  wpList_plain hg fun K hK => by unfold Oper.wp; rw [h]; exact hK _ _ hk
theorem eval_put_ne (a : Act) (d t : Nat) (v : Value) (h : d ≠ t) : (a.put (some d) v).eval (.tmp t) = a.eval (.tmp t) := by
  show (a.tmps.setIfInBounds d v).getD t undef = a.tmps.getD t undef
  simp [Array.getElem?_setIfInBounds, h]
theorem eval_put_same (a : Act) (d : Nat) (v : Value) (h : d < a.tmps.size) : (a.put (some d) v).eval (.tmp d) = v := by
  show (a.tmps.setIfInBounds d v).getD d undef = v
  simp [Array.getElem?_setIfInBounds, h]
end

/-- The table's operations. -/
noncomputable def opsOf : Option Code → Array Oper
  | some (.seq _ (.seq (.region _ ops _) _)) => ops
  | _ => #[]
noncomputable def entOps : Array Oper := opsOf Tryd.f27.body
def ent0 (x p : Value) : Act := { tmps := #[x, undef, p] ++ Array.replicate 154 undef, defers := [] }
def entSum (o : Option Act) : Option (Value × Value × Value × Nat × List Deferred) := o.map fun a => (a.eval (.tmp 0), a.eval (.tmp 2), a.eval (.tmp 154), a.tmps.size, a.defers)
theorem ent1_sum (x p : Value) : entSum (builds Tryd.prog (entOps.toList.take 152) (ent0 x p)) = some (x, p, .agg entA, 157, []) := by kernel_rfl
theorem ent1_is (x p : Value) : ∃ a, builds Tryd.prog (entOps.toList.take 152) (ent0 x p) = some a ∧ a.eval (.tmp 0) = x ∧ a.eval (.tmp 2) = p ∧ a.eval (.tmp 154) = .agg entA ∧ a.tmps.size = 157 ∧ a.defers = [] := by
  have h := ent1_sum x p
  unfold entSum at h
  cases hb : builds Tryd.prog (entOps.toList.take 152) (ent0 x p) with
  | none => rw [hb] at h; cases h
  | some a =>
    rw [hb] at h
    simp only [Option.map_some, Option.some.injEq, Prod.mk.injEq] at h
    exact ⟨a, rfl, h.1, h.2.1, h.2.2.1, h.2.2.2.1, h.2.2.2.2⟩
/-- Each byte's two cells in the table. -/
def sameC (c : Array Value) (b : Nat) : Bool := match c.toList with
  | [.string s, .int .i64 m] => s.data.toList == nm b && m == md b
  | _ => false
theorem sameC_eq {c : Array Value} {b : Nat} (h : sameC c b = true) : c = entC b := by
  unfold sameC at h
  split at h
  · rename_i s m e
    simp only [Bool.and_eq_true, beq_iff_eq] at h
    unfold entC
    rw [← h.1, ← h.2]
    exact congrArg List.toArray e
  · cases h
theorem entA_all : ∀ b : Fin 256, sameC (entA.extract (2 * b.val) (2 * b.val + 2)) b.val = true := by decide +kernel
theorem entA_at (b : Nat) (hb : b < 256) : entA.extract (2 * b) (2 * b + 2) = entC b := sameC_eq (entA_all ⟨b, hb⟩)
end Go.Proofs.YtcplegelppfdeaaDoor
