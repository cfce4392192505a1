/-
  A region that draws its order, among whose operations one makes a new block whenever it comes: where the block lies hangs on the order, and is a name.
-/
import Derived.Test.YtcplegelppfdeaaDoorPlanT
import Derived.Test.YtcplegelppfdeaaDoorHeld
set_option linter.unusedSimpArgs false
set_option linter.unusedVariables false
namespace Go.Proofs.YtcplegelppfdeaaDoor
open Go

section
variable {P : Program} {ops : Array Oper} {Q : Exit → Act → World → Prop} {md : Region.Mode} {S : World → Prop}

/-- As One, and nothing turns that was there. -/
def OneB (P : Program) (w : World) (v : Value) : Result Next → Prop
  | .ok (.value u) w' => u = v ∧ RowKit.Below w.heap.size w w'
  | .ok (.enter f args) w' => w' = w ∧ Calls P f args w fun e w'' => e = .returned v ∧ RowKit.Below w.heap.size w w''
  | _ => False
def DoesB (P : Program) (ops : Array Oper) (S : World → Prop) (o : Oper) (v : Value) (a : Act) : Prop :=
  (Region.wanted o (yielded ops a.tmps) = true ∧ ∀ w, S w → OneB P w v ((execOp a.eval o).run P w)) ∨
  (Region.wanted o (yielded ops a.tmps) = false ∧ v = undef)
def Stable (S : World → Prop) : Prop := ∀ W w1, S W → RowKit.Below W.heap.size W w1 → S w1

theorem DoesB.does {o : Oper} {v : Value} {a : Act} {X : World → Prop} (hst : Stable S) (hX : Stable X) (h : DoesB P ops S o v a) : Does P ops (fun w => S w ∧ X w) o v a := by
  rcases h with ⟨hw, h⟩ | h
  · refine .inl ⟨hw, fun w hS => ?_⟩
    have h1 := h w hS.1
    generalize (execOp a.eval o).run P w = r at *
    cases r with
    | ok n w' =>
      cases n <;> simp only [OneB] at h1
      case value u => exact ⟨h1.1, hst w w' hS.1 h1.2, hX w w' hS.2 h1.2⟩
      case enter f args =>
        obtain ⟨rfl, h1⟩ := h1
        exact Calls.mono h1 fun e w'' he => ⟨he.1, hst _ _ hS.1 he.2, hX _ _ hS.2 he.2⟩
    | halt x w' => simp only [OneB] at h1
  · exact .inr h

theorem wpOp_value {i : Nat} {o : Oper} {a : Act} {v : Value} {w w' : World} {K : Act → World → Prop} (ho : ops[i]? = some o) (hw : Region.wanted o (yielded ops a.tmps) = true)
    (hr : (execOp a.eval o).run P w = .ok (.value v) w') (h : K (a.put o.dst v) w') : Go.wpOp P ops Q i K a w := by
  unfold Go.wpOp
  simp only [ho, hw, if_true]
  refine .inl ?_
  unfold Oper.wp
  rw [hr]
  exact h

/-- The first operations, in the text's order, but for the one that makes the block. -/
def PlanA (P : Program) (ops : Array Oper) (S : World → Prop) (K : Act → Prop) (k : Nat) : Nat → List Oper → Act → Prop
  | _, [], a => K a
  | m, o :: r, a => if m = k then PlanA P ops S K k (m + 1) r a else ∃ v, DoesB P ops S o v a ∧ PlanA P ops S K k (m + 1) r (a.put o.dst v)

theorem PlanA.take {K : Act → Prop} {k : Nat} (n : Nat) : ∀ (l : List Oper) (m : Nat) (a : Act), (ops.toList.take n).drop m = l → m ≤ n → n ≤ ops.size → PlanA P ops S K k m l a →
    ∃ vs : Nat → Value, (∀ i o, m ≤ i → i < n → i ≠ k → ops[i]? = some o → DoesB P ops S o (vs i) (Proofs.YtcplegelppfdeaaDoor.puts ops vs (fun j => decide (j ≠ k)) ((List.range (i - m)).map (· + m)) a)) ∧
      K (Proofs.YtcplegelppfdeaaDoor.puts ops vs (fun j => decide (j ≠ k)) ((List.range (n - m)).map (· + m)) a)
  | [], m, a, hl, hmn, hns, h => by
    have hn : n ≤ m := by
      have := congrArg List.length hl
      simp at this
      omega
    refine ⟨fun _ => undef, fun i o hi hin _ ho => by omega, ?_⟩
    rw [Nat.sub_eq_zero_of_le hn]
    exact h
  | o :: r, m, a, hl, hmn, hns, h => by
    have hn : m < n := by
      have := congrArg List.length hl
      simp at this
      omega
    have hdrop : (ops.toList.take n).drop m = ops[m]'(by omega) :: (ops.toList.take n).drop (m + 1) := by
      rw [List.drop_eq_getElem_cons (by simp; omega)]
      simp
    rw [hl] at hdrop
    obtain ⟨e1, e2⟩ := List.cons.inj hdrop
    have hon : ops[m]? = some o := by rw [Array.getElem?_eq_getElem (by omega), e1]
    have hr : ∀ j, m < j → (List.range (j - m)).map (· + m) = m :: (List.range (j - (m + 1))).map (· + (m + 1)) := by
      intro j hj
      rw [show j - m = (j - (m + 1)) + 1 by omega, List.range_succ_eq_map, List.map_cons, List.map_map]
      congr 1
      · omega
      · apply List.map_congr_left
        intro x _
        show x + 1 + m = x + (m + 1)
        omega
    unfold PlanA at h
    by_cases hmk : m = k
    · rw [if_pos hmk] at h
      obtain ⟨vs, h1, h2⟩ := PlanA.take n r (m + 1) a e2.symm (by omega) hns h
      have first : ∀ j, m < j → Proofs.YtcplegelppfdeaaDoor.puts ops vs (fun j => decide (j ≠ k)) ((List.range (j - m)).map (· + m)) a = Proofs.YtcplegelppfdeaaDoor.puts ops vs (fun j => decide (j ≠ k)) ((List.range (j - (m + 1))).map (· + (m + 1))) a := by
        intro j hj
        rw [hr j hj]
        show Proofs.YtcplegelppfdeaaDoor.puts ops vs _ _ (if decide (m ≠ k) = true then _ else a) = _
        rw [if_neg (by simp [hmk])]
      refine ⟨vs, fun i o' hi hin hik ho => ?_, ?_⟩
      · rw [first i (by omega)]
        exact h1 i o' (by omega) hin hik ho
      · rw [first n hn]
        exact h2
    · rw [if_neg hmk] at h
      obtain ⟨v, hv, h⟩ := h
      obtain ⟨vs, h1, h2⟩ := PlanA.take n r (m + 1) (a.put o.dst v) e2.symm (by omega) hns h
      let vs' : Nat → Value := fun k => if k = m then v else vs k
      have same : ∀ (j : Nat) (b : Act), Proofs.YtcplegelppfdeaaDoor.puts ops vs' (fun j => decide (j ≠ k)) ((List.range j).map (· + (m + 1))) b = Proofs.YtcplegelppfdeaaDoor.puts ops vs (fun j => decide (j ≠ k)) ((List.range j).map (· + (m + 1))) b := by
        intro j b
        refine puts_vals _ _ (fun k hk => ?_)
        obtain ⟨x, _, rfl⟩ := List.mem_map.1 hk
        exact if_neg (by omega)
      have first : ∀ j, m < j → Proofs.YtcplegelppfdeaaDoor.puts ops vs' (fun j => decide (j ≠ k)) ((List.range (j - m)).map (· + m)) a = Proofs.YtcplegelppfdeaaDoor.puts ops vs (fun j => decide (j ≠ k)) ((List.range (j - (m + 1))).map (· + (m + 1))) (a.put o.dst v) := by
        intro j hj
        rw [hr j hj]
        show Proofs.YtcplegelppfdeaaDoor.puts ops vs' _ _ (if decide (m ≠ k) = true then a.put ((ops[m]?).bind (·.dst)) (vs' m) else a) = _
        rw [if_pos (by simp [hmk]), hon, show vs' m = v from if_pos rfl]
        exact same _ _
      refine ⟨vs', fun i o' hi hin hik ho => ?_, ?_⟩
      · by_cases him : i = m
        · subst him
          rw [hon] at ho; cases ho
          rw [Nat.sub_self, show vs' i = v from if_pos rfl]
          exact hv
        · rw [first i (by omega), show vs' i = vs i from if_neg him]
          exact h1 i o' (by omega) hin hik ho
      · rw [first n hn]
        exact h2

/-- The k-th of the first n puts into d, at which none of the others looks, and into which none of them puts. -/
def aloneAt (ops : Array Oper) (n k : Nat) (d : Tmp) : Bool :=
  decide (k < n) && (match ops[k]? with | some o => decide (o.dst = some d) && decide (o.guard = none) | none => false) &&
  (List.range n).all fun i => decide (i = k) || match ops[i]? with | some o => decide (d ∉ o.looksAt ops) && decide (o.dst ≠ some d) | none => true

def RunsAt (P : Program) (ops : Array Oper) (k : Nat) (zs : Array Value) (T : TypeId) : Prop :=
  ∀ (a : Act) (w : World), match ops[k]? with
    | some o => (execOp a.eval o).run P w = .ok (.value (.pointer (some ⟨w.heap.size, 0, none⟩))) (w.alloc (.cells zs T))
    | none => True

theorem wp_region_planA {id : Nat} {a : Act} {w : World} (n k : Nat) (d : Tmp) (zs : Array Value) (T : TypeId) (S : World → Prop) (E : Nat → World → Prop) (hm : P.follows .mixedOrders = true) (hok : planOkT .any ops n = true) (hsel : Region.noSelect ops = true)
    (hseq : Region.seqB .any ops (ops.size - n) n (heads ops.size n) = true) (hal : aloneAt ops n k d = true)
    (hrun0 : RunsAt P ops k zs T)
    (hst : Stable S) (hE : ∀ b, Stable (E b)) (hnew : ∀ w, S w → E w.heap.size (w.alloc (.cells zs T))) (hS : S w.drew)
    (h : PlanA P ops S (fun a' => ∀ b w', S w' → E b w' → wpList P ops Q (ops.toList.drop n) (a'.put (some d) (.pointer (some ⟨b, 0, none⟩))) w') k 0 (ops.toList.take n) a) : (Code.region id ops true).wp P Q a w := by
  have hns := planOkT_le hok
  have hs := Region.noSelect_spec hsel
  obtain ⟨vs, h1, h2⟩ := PlanA.take n (ops.toList.take n) 0 a rfl (Nat.zero_le _) hns h
  simp only [Nat.sub_zero, map_zero] at h1 h2
  unfold aloneAt at hal
  rw [Bool.and_eq_true, Bool.and_eq_true, decide_eq_true_eq] at hal
  obtain ⟨⟨hkn, hko⟩, hoth⟩ := hal
  obtain ⟨ok, hok1⟩ : ∃ o, ops[k]? = some o := ⟨ops[k]'(by omega), Array.getElem?_eq_getElem (by omega)⟩
  simp only [hok1, Bool.and_eq_true, decide_eq_true_eq] at hko
  have hrun : ∀ o, ops[k]? = some o → ∀ (a : Act) w, (execOp a.eval o).run P w = .ok (.value (.pointer (some ⟨w.heap.size, 0, none⟩))) (w.alloc (.cells zs T)) := by
    intro o ho a w
    have := hrun0 a w
    rw [ho] at this
    exact this
  have hfar : ∀ i o, i < n → i ≠ k → ops[i]? = some o → d ∉ o.looksAt ops ∧ o.dst ≠ some d := by
    intro i o hi hik ho
    have := List.all_eq_true.1 hoth i (List.mem_range.2 hi)
    simpa [ho, hik] using this
  refine wp_region_any hm ?_
  have hz : ∀ k, (Array.replicate ops.size false).getD k false = false := fun k => by
    rw [Array.getD_eq_getD_getElem?, Array.getElem?_replicate]; split <;> rfl
  have hlen : (ops.toList.drop n).length = ops.size - n := by simp
  -- the frame where an operation looks does not hang on the block
  have dst_other : ∀ i j, i < n → i ≠ k → (ops[i]?).bind (·.dst) = some j → j ≠ d := by
    intro i j hi hik hj
    obtain ⟨o, ho⟩ : ∃ o, ops[i]? = some o := ⟨ops[i]'(by omega), Array.getElem?_eq_getElem (by omega)⟩
    rw [ho, Option.bind_some] at hj
    exact fun e => (hfar i o hi hik ho).2 (by rw [hj, e])
  have frame : ∀ (vs' : Nat → Value) (i : Nat) (o : Oper), i < n → i ≠ k → ops[i]? = some o → (∀ j, j ≠ k → vs' j = vs j) → ∀ (X : World → Prop), Stable X →
      Does P ops (fun w => S w ∧ X w) o (vs' i) (Proofs.YtcplegelppfdeaaDoor.puts ops vs' (fun _ => true) (List.range i) a) := by
    intro vs' i o hi hik ho hv X hX
    rw [hv i hik]
    refine Does.of_looks (a := Proofs.YtcplegelppfdeaaDoor.puts ops vs (fun j => decide (j ≠ k)) (List.range i) a) (fun cs b => hs i o cs b ho) ?_ ((h1 i o (Nat.zero_le _) hi hik ho).does hst hX)
    intro t ht
    have htd : t ≠ d := fun e => (hfar i o hi hik ho).1 (e ▸ ht)
    have hval : Proofs.YtcplegelppfdeaaDoor.puts ops vs (fun j => decide (j ≠ k)) (List.range i) a = Proofs.YtcplegelppfdeaaDoor.puts ops vs' (fun j => decide (j ≠ k)) (List.range i) a := by
      have : ∀ (ks : List Nat) (b : Act), Proofs.YtcplegelppfdeaaDoor.puts ops vs (fun j => decide (j ≠ k)) ks b = Proofs.YtcplegelppfdeaaDoor.puts ops vs' (fun j => decide (j ≠ k)) ks b := by
        intro ks
        induction ks with
        | nil => intro b; rfl
        | cons x xs ih =>
          intro b
          unfold Proofs.YtcplegelppfdeaaDoor.puts
          by_cases hx : x = k
          · rw [if_neg (by simp [hx]), if_neg (by simp [hx])]; exact ih b
          · rw [if_pos (by simp [hx]), if_pos (by simp [hx]), hv x hx]; exact ih _
      exact this _ _
    rw [hval]
    refine puts_get _ _ _ (fun j hj hdst => ?_) rfl rfl
    by_cases hjk : j = k
    · subst hjk
      rw [hok1, Option.bind_some, hko.1] at hdst
      injection hdst with e
      exact absurd e.symm htd
    · simp [hjk]
  have tail : ∀ (b : Nat) (vs' : Nat → Value), (∀ j, j ≠ k → vs' j = vs j) → vs' k = .pointer (some ⟨b, 0, none⟩) →
      Proofs.YtcplegelppfdeaaDoor.puts ops vs' (fun _ => true) (List.range n) a = (Proofs.YtcplegelppfdeaaDoor.puts ops vs (fun j => decide (j ≠ k)) (List.range n) a).put (some d) (.pointer (some ⟨b, 0, none⟩)) := by
    intro b vs' hv hk
    have e1 := puts_more (ops := ops) (vs := vs') (m := fun j => decide (j ≠ k)) (m' := fun _ => true) (i := k) (List.range n) a List.pairwise_lt_range (List.mem_range.2 hkn) (by simp) rfl (fun j hj => by simp [hj])
      (fun j hj hkj _ t ht hjt => by
        have hj := List.mem_range.1 hj
        rw [hok1, Option.bind_some, hko.1] at ht
        injection ht with e
        exact dst_other j t hj (by omega) hjt e.symm)
    rw [e1, hok1, Option.bind_some, hko.1, hk]
    congr 1
    have : ∀ (ks : List Nat) (c : Act), Proofs.YtcplegelppfdeaaDoor.puts ops vs' (fun j => decide (j ≠ k)) ks c = Proofs.YtcplegelppfdeaaDoor.puts ops vs (fun j => decide (j ≠ k)) ks c := by
      intro ks
      induction ks with
      | nil => intro c; rfl
      | cons x xs ih =>
        intro c
        unfold Proofs.YtcplegelppfdeaaDoor.puts
        by_cases hx : x = k
        · rw [if_neg (by simp [hx]), if_neg (by simp [hx])]; exact ih c
        · rw [if_pos (by simp [hx]), if_pos (by simp [hx]), hv x hx]; exact ih _
    exact this _ _
  have h3 := wpAny_planG (Q := Q) (S := fun w => S w ∧ True) (n := n) (g := ops.size - n) (fun j => decide (j = k)) (fun l => l.getD k false = false) hok hsel vs a
    (fun i o hin hsk ho => frame vs i o hin (by simpa using hsk) ho (fun _ _ => rfl) (fun _ => True) (fun _ _ _ _ => trivial))
    (fun listed w' hsz hl hinv _ => by rw [hl k] at hinv; simp [hkn] at hinv)
    (fun l i hsk hinv => by
      have hik : i ≠ k := by simpa using hsk
      show (l.setIfInBounds i true).getD k false = false
      rw [getD_set_ne false hik]
      exact hinv)
    (fun c listed w1 i o ho hin hsk hinv hsz h0 hcl hall htl hle hSw => by
      have hik : i = k := by simpa using hsk
      subst hik
      rw [hok1] at ho; cases ho
      refine wpOp_value hok1 (by unfold Region.wanted; rw [hko.2]) (hrun _ hok1 _ w1) ?_
      rw [hko.1]
      let vs' : Nat → Value := fun j => if j = i then .pointer (some ⟨w1.heap.size, 0, none⟩) else vs j
      have hv : ∀ j, j ≠ i → vs' j = vs j := fun j hj => if_neg hj
      have hvi : vs' i = .pointer (some ⟨w1.heap.size, 0, none⟩) := if_pos rfl
      have hm' : ∀ j, j ≠ i → (listed.setIfInBounds i true).getD j false = listed.getD j false := fun j hj => getD_set_ne false (Ne.symm hj)
      have hmi : (listed.setIfInBounds i true).getD i false = true := by
        have : i < listed.size := by omega
        simp [this]
      have e2 : (Proofs.YtcplegelppfdeaaDoor.puts ops vs (fun j => listed.getD j false) (List.range n) a).put (some d) (.pointer (some ⟨w1.heap.size, 0, none⟩)) = Proofs.YtcplegelppfdeaaDoor.puts ops vs' (fun j => (listed.setIfInBounds i true).getD j false) (List.range n) a := by
        have e1 := puts_more (ops := ops) (vs := vs') (m := fun j => listed.getD j false) (m' := fun j => (listed.setIfInBounds i true).getD j false) (i := i) (List.range n) a
          List.pairwise_lt_range (List.mem_range.2 hkn) h0 hmi hm' (fun j hj hij _ t ht hjt => by
            have hj := List.mem_range.1 hj
            rw [hok1, Option.bind_some, hko.1] at ht
            injection ht with e
            exact dst_other j t hj (by omega) hjt e.symm)
        rw [e1, hok1, Option.bind_some, hko.1, hvi]
        congr 1
        have : ∀ (ks : List Nat) (c : Act), Proofs.YtcplegelppfdeaaDoor.puts ops vs (fun j => listed.getD j false) ks c = Proofs.YtcplegelppfdeaaDoor.puts ops vs' (fun j => listed.getD j false) ks c := by
          intro ks
          induction ks with
          | nil => intro c; rfl
          | cons x xs ih =>
            intro c
            unfold Proofs.YtcplegelppfdeaaDoor.puts
            by_cases hx : x = i
            · subst hx; rw [h0]; exact ih c
            · rw [hv x hx]; exact ih _
        exact this _ _
      rw [e2]
      have hbel : RowKit.Below w1.heap.size w1 (w1.alloc (.cells zs T)) := (RowKit.Below.refl _ _).alloc (Nat.le_refl _) _
      refine wpAny_planG (Q := Q) (S := fun w => S w ∧ E w1.heap.size w) (n := n) (g := ops.size - n) (fun j => decide (j = i)) (fun l => l.getD i false = true) hok hsel vs' a
        (fun j o hjn hsk ho => frame vs' j o hjn (by simpa using hsk) ho hv (E w1.heap.size) (hE _))
        (fun listed w' hsz hl hinv hSE => ?_) (fun l j hsk hinv => getD_set_true hinv) (fun c l w2 j o ho hjn hsk hinv hsz hj0 => by
          have hji : j = i := by simpa using hsk
          subst hji
          rw [hinv] at hj0; cases hj0) c _ _ (by simpa using hsz) hmi ?_ ?_ ?_ ⟨hst _ _ hSw.1 hbel, hnew w1 hSw.1⟩
      · rw [tail w1.heap.size vs' hv hvi, heads_of hns hsz hl, ← hlen]
        exact wpAny_of_seq (ops.toList.drop n) n _ _ _ (fun j => by simp) (by rw [hlen]; exact hseq) (h2 w1.heap.size w' hSE.1 hSE.2)
      · intro j p hp hj e he hb
        by_cases hji : j = i
        · subst hji
          rw [hok1] at hp; cases hp
          exact getD_set_true (hall e he hb)
        · rw [hm' j hji] at hj
          exact getD_set_true (hcl j p hp hj e he hb)
      · intro j hj
        rw [hm' j (by omega)]
        exact htl j hj
      · have hlen : ((List.range n).filter fun k => !(listed.setIfInBounds i true).getD k false).length + 1 = ((List.range n).filter fun k => !listed.getD k false).length := by
          refine filt_one (i := i) _ List.nodup_range (List.mem_range.2 hin) (fun k hk => ?_) (by simpa using h0) (by simpa using hmi)
          rw [hm' k hk]
        omega)
    n (Array.replicate ops.size false) w.drew (by simp) (hz k) (fun i o _ hl => by rw [hz] at hl; cases hl) (fun k _ => hz k) (by
      rw [List.filter_eq_self.2 (fun k _ => by rw [hz]; rfl)]
      simp) ⟨hS, trivial⟩
  have h4 : Proofs.YtcplegelppfdeaaDoor.puts ops vs (fun k => (Array.replicate ops.size false).getD k false) (List.range n) a = a := by
    have : ∀ (ks : List Nat), Proofs.YtcplegelppfdeaaDoor.puts ops vs (fun k => (Array.replicate ops.size false).getD k false) ks a = a := by
      intro ks
      induction ks with
      | nil => rfl
      | cons x xs ih =>
        unfold Proofs.YtcplegelppfdeaaDoor.puts
        rw [hz]
        exact ih
    exact this _
  rw [h4] at h3
  rw [show n + (ops.size - n) = ops.size by omega] at h3
  exact h3

theorem PlanA.done {K : Act → Prop} {k m : Nat} {a : Act} (h : K a) : PlanA P ops S K k m [] a := h
theorem PlanA.skip {K : Act → Prop} {k m : Nat} {o : Oper} {r : List Oper} {a : Act} (hm : m = k) (h : PlanA P ops S K k (m + 1) r a) : PlanA P ops S K k m (o :: r) a := by
  unfold PlanA; rw [if_pos hm]; exact h
theorem PlanA.no {K : Act → Prop} {k m : Nat} {o : Oper} {r : List Oper} {a : Act} (hm : m ≠ k) (hw : Region.wanted o (yielded ops a.tmps) = false) (h : PlanA P ops S K k (m + 1) r (a.put o.dst undef)) : PlanA P ops S K k m (o :: r) a := by
  unfold PlanA; rw [if_neg hm]; exact ⟨undef, .inr ⟨hw, rfl⟩, h⟩
theorem PlanA.val {K : Act → Prop} {k m : Nat} {o : Oper} {r : List Oper} {a : Act} {v : Value} (hm : m ≠ k) (hw : Region.wanted o (yielded ops a.tmps) = true) (hv : ∀ w, S w → (execOp a.eval o).run P w = .ok (.value v) w)
    (h : PlanA P ops S K k (m + 1) r (a.put o.dst v)) : PlanA P ops S K k m (o :: r) a := by
  unfold PlanA; rw [if_neg hm]; exact ⟨v, .inl ⟨hw, fun w hS => by rw [hv w hS]; exact ⟨rfl, RowKit.Below.refl _ _⟩⟩, h⟩
theorem PlanA.call {K : Act → Prop} {k m : Nat} {o : Oper} {r : List Oper} {a : Act} {v : Value} {f : FuncId} {args : Array Value} (hm : m ≠ k) (hw : Region.wanted o (yielded ops a.tmps) = true)
    (hv : ∀ w, S w → (execOp a.eval o).run P w = .ok (.enter f args) w) (hc : ∀ w, S w → Calls P f args w fun e w' => e = .returned v ∧ RowKit.Below w.heap.size w w')
    (h : PlanA P ops S K k (m + 1) r (a.put o.dst v)) : PlanA P ops S K k m (o :: r) a := by
  unfold PlanA; rw [if_neg hm]; exact ⟨v, .inl ⟨hw, fun w hS => by rw [hv w hS]; exact ⟨rfl, hc w hS⟩⟩, h⟩
end
end Go.Proofs.YtcplegelppfdeaaDoor
