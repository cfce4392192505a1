/-
  A switch of a text over lists of constant texts, each case returning a constant: read off the code, walked once for all.
-/
import Derived.Test.YtcplegelppfdeaaDoorEntc
set_option linter.unusedSimpArgs false
set_option linter.unusedVariables false
namespace Go.Proofs.YtcplegelppfdeaaDoor
open Go.RowKit Go.PlainAid

/-- A region that compares slot x with a constant text, into slot r. -/
def testOps (n x r : Nat) : List Oper → Option ByteArray
  | [o1, o2] => match o1.guard, o1.dst, o1.op, o2.guard, o2.dst, o2.op with
    | none, some d, .binOp .eql t (.tmp x') (.const (.string s)) _, none, some r', .assign (.tmp d') =>
      if t = 9 ∧ x' = x ∧ r' = r ∧ d' = d ∧ d ≠ x ∧ r ≠ x ∧ d < n ∧ r < n then some s else none
    | _, _, _, _, _, _ => none
  | _ => none
def testOf (n x r : Nat) : Code → Option ByteArray
  | .region _ ops false => testOps n x r ops.toList
  | _ => none
/-- Several of them, up to the first that holds. -/
def chainOf (n x r : Nat) : Code → Option (List ByteArray)
  | .seq c (.cond (.tmp r') .skip d) => match testOf n x r c, chainOf n x r d with
    | some s, some l => if r' = r then some (s :: l) else none
    | _, _ => none
  | c => (testOf n x r c).map fun s => [s]
/-- A region that puts a constant into slot o. -/
def putOps (o : Nat) : List Oper → Option Int
  | [o1] => match o1.guard, o1.dst, o1.op with
    | none, some d, .assign (.const (.int .i64 n)) => if d = o then some n else none
    | _, _, _ => none
  | _ => none
/-- The whole switch: the cases' texts and answers. -/
def switchOf (n x o : Nat) : Code → Option (List (List ByteArray × Int))
  | .seq c (.cond (.tmp r) (.seq (.region _ ops false) .ret) d) => match chainOf n x r c, putOps o ops.toList, switchOf n x o d with
    | some l, some k, some g => if o ≠ x ∧ o < n then some ((l, k) :: g) else none
    | _, _, _ => none
  | .skip => some []
  | _ => none

/-- What a switch leaves of a frame. -/
structure Kin (x : Nat) (a a' : Act) : Prop where
  size : a'.tmps.size = a.tmps.size
  defers : a'.defers = a.defers
  at_x : a'.eval (.tmp x) = a.eval (.tmp x)
theorem Kin.refl (x : Nat) (a : Act) : Kin x a a := ⟨rfl, rfl, rfl⟩
theorem Kin.trans {x : Nat} {a b c : Act} (h : Kin x a b) (k : Kin x b c) : Kin x a c := ⟨k.size.trans h.size, k.defers.trans h.defers, k.at_x.trans h.at_x⟩
theorem Kin.put {x d : Nat} {a : Act} (v : Value) (h : d ≠ x) : Kin x a (a.put (some d) v) := ⟨by show (a.tmps.setIfInBounds d v).size = _; simp, rfl, eval_put_ne _ _ _ _ h⟩
theorem run_eql_text (P : Program) (a : Act) (o : Oper) (t u : TypeId) (y z : Operand) (s s' : ByteArray) (ho : o.op = .binOp .eql t y z u) (hy : a.eval y = .string s) (hz : a.eval z = .string s') (w : World) :
    (execOp a.eval o).run P w = .ok (.value (.bool (s.toList == s'.toList))) w := by
  unfold execOp
  rw [ho]
  show Sem.run P (do pure (Next.value (← (do eqGuard .eql t y z (a.eval y) (a.eval z); binOp .eql t (a.eval y) (a.eval z))))) w = _
  rw [hy, hz]
  simp [go_sem, eqGuard]

section
variable {P : Program} {w : World}
theorem wp_test {n x r : Nat} {c : Code} {t s : ByteArray} (hc : testOf n x r c = some t) {a : Act} (hx : a.eval (.tmp x) = .string s) (hn : a.tmps.size = n) {Q : Exit → Act → World → Prop}
    (h : ∀ a', Kin x a a' → a'.eval (.tmp r) = .bool (s.toList == t.toList) → Q .normal a' w) : c.wp P Q a w := by
  unfold testOf at hc
  split at hc
  · rename_i i ops
    refine wp_region_list ?_
    generalize ops.toList = L at hc
    unfold testOps at hc
    split at hc
    · rename_i o1 o2
      split at hc
      · rename_i d t' x' s' u r' d' g1 d1 p1 g2 d2 p2
        split at hc
        · rename_i hh
          obtain ⟨rfl, rfl, rfl, rfl, hdx, hrx, hdn, hrn⟩ := hh
          simp only [Option.some.injEq] at hc
          subst hc
          refine wpList_val (w' := w) (.bool (s.toList == s'.toList)) g1 (run_eql_text P a o1 _ _ _ _ s s' p1 hx rfl w) ?_
          rw [d1]
          have e1 := eval_put_same a d' (.bool (s.toList == s'.toList)) (by rw [hn]; exact hdn)
          refine wpList_val (w' := w) (.bool (s.toList == s'.toList)) g2 ?_ ?_
          · rw [BigFrame.run_assign _ p2, e1]
          rw [d2]
          refine wpList_nil (h _ ((Kin.put _ hdx).trans (Kin.put _ hrx)) ?_)
          exact eval_put_same _ _ _ (by rw [(Kin.put (x := x') (a := a) (.bool (s.toList == s'.toList)) hdx).size, hn]; exact hrn)
        · cases hc
      · cases hc
    · cases hc
  · cases hc

theorem wp_chain {n x r : Nat} {s : ByteArray} : ∀ (k : Nat) {c : Code} {l : List ByteArray} (hk : SizeOf.sizeOf c < k) (hc : chainOf n x r c = some l) {a : Act} (hx : a.eval (.tmp x) = .string s) (hn : a.tmps.size = n) {Q : Exit → Act → World → Prop}
    (h : ∀ a', Kin x a a' → a'.eval (.tmp r) = .bool (l.any fun t => s.toList == t.toList) → Q .normal a' w), c.wp P Q a w
  | 0, c, _, hk, _, _, _, _, _, _ => absurd hk (Nat.not_lt_zero _)
  | k + 1, c, l, hk, hc, a, hx, hn, Q, h => by
    unfold chainOf at hc
    split at hc
    · rename_i c1 r' d
      split at hc
      · rename_i t l' ht hl
        split at hc
        · rename_i hr
          subst hr
          simp only [Option.some.injEq] at hc
          subst hc
          refine wp_seq (wp_test ht hx hn fun a1 k1 b1 => ?_)
          show Code.wp P _ Q a1 w
          refine wp_cond_split b1 (fun e => ?_) (fun e => ?_)
          · refine wp_skip (h a1 k1 ?_)
            rw [b1]
            simp [e]
          · refine wp_chain k (by simp at hk; omega) hl (k1.at_x.trans hx) (k1.size.trans hn) fun a2 k2 b2 => h a2 (k1.trans k2) ?_
            rw [b2]
            simp only [List.any_cons, e, Bool.false_or]
        · cases hc
      · cases hc
    · cases ht : testOf n x r c with
      | none => rw [ht] at hc; cases hc
      | some t =>
        rw [ht] at hc
        simp only [Option.map_some, Option.some.injEq] at hc
        subst hc
        refine wp_test ht hx hn fun a1 k1 b1 => h a1 k1 ?_
        rw [b1]
        simp
theorem wp_put {n o : Nat} {ops : Array Oper} {i : Nat} {v : Int} (hc : putOps o ops.toList = some v) {a : Act} {Q : Exit → Act → World → Prop} (h : Q .normal (a.put (some o) (.int .i64 v)) w) : (Code.region i ops false).wp P Q a w := by
  refine wp_region_list ?_
  generalize ops.toList = L at hc
  unfold putOps at hc
  split at hc
  · rename_i o1
    split at hc
    · rename_i d v' g1 d1 p1
      split at hc
      · rename_i hd
        subst hd
        simp only [Option.some.injEq] at hc
        subst hc
        refine wpList_val (w' := w) (.int .i64 v') g1 ?_ ?_
        · rw [BigFrame.run_assign _ p1]; rfl
        rw [d1]
        exact wpList_nil h
      · cases hc
    · cases hc
  · cases hc
/-- What a switch comes to: the first case in which the text stands. -/
def caseOf (g : List (List ByteArray × Int)) (s : ByteArray) : Option Int := match g with
  | [] => none
  | (l, v) :: r => if l.any (fun t => s.toList == t.toList) then some v else caseOf r s
theorem wp_switch {n x o : Nat} {s : ByteArray} : ∀ (k : Nat) {c : Code} {g : List (List ByteArray × Int)} (hk : SizeOf.sizeOf c < k) (hc : switchOf n x o c = some g) {a : Act} (hx : a.eval (.tmp x) = .string s) (hn : a.tmps.size = n) {Q : Exit → Act → World → Prop}
    (hr : ∀ a' v, Kin x a a' → caseOf g s = some v → a'.eval (.tmp o) = .int .i64 v → Q .ret a' w) (hd : ∀ a', Kin x a a' → caseOf g s = none → Q .normal a' w), c.wp P Q a w
  | 0, c, _, hk, _, _, _, _, _, _, _ => absurd hk (Nat.not_lt_zero _)
  | k + 1, c, g, hk, hc, a, hx, hn, Q, hr, hd => by
    unfold switchOf at hc
    split at hc
    · rename_i c1 r i ops d
      split at hc
      · rename_i l v g' hl hv hg
        split at hc
        · rename_i ho
          simp only [Option.some.injEq] at hc
          subst hc
          refine wp_seq (wp_chain (SizeOf.sizeOf c1 + 1) (by omega) hl hx hn fun a1 k1 b1 => ?_)
          show Code.wp P _ Q a1 w
          refine wp_cond_split b1 (fun e => ?_) (fun e => ?_)
          · refine wp_seq (wp_put (n := n) hv ?_)
            show Code.wp P _ Q _ w
            refine wp_ret (hr _ v (k1.trans (Kin.put _ ho.1)) (by simp only [caseOf, e, if_true]) (eval_put_same _ _ _ (by rw [k1.size]; omega)))
          · refine wp_switch k (by simp at hk; omega) hg (k1.at_x.trans hx) (k1.size.trans hn) (fun a2 v k2 b2 => hr a2 v (k1.trans k2) (by simp only [caseOf, e]; exact b2)) (fun a2 k2 b2 => hd a2 (k1.trans k2) (by simp only [caseOf, e]; exact b2))
        · cases hc
      · cases hc
    · simp only [Option.some.injEq] at hc
      subst hc
      exact wp_skip (hd a (Kin.refl _ _) rfl)
    · cases hc
end
end Go.Proofs.YtcplegelppfdeaaDoor
