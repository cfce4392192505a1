/-
  A region that draws its order, of operations each of which yields one value, where one of them turns the condition: whatever the order, all values are there in the end, and the condition is the turned one.
-/
import Derived.Test.YtcplegelppfdeaaDoorPlanT
set_option linter.unusedSimpArgs false
set_option linter.unusedVariables false
namespace Go.Proofs.YtcplegelppfdeaaDoor
open Go

section
variable {P : Program} {ops : Array Oper} {Q : Exit → Act → World → Prop} {md : Region.Mode} {Sa Sb : World → Prop}

def Does2 (P : Program) (ops : Array Oper) (Sa Sb : World → Prop) (o : Oper) (v : Value) (a : Act) : Prop :=
  (Region.wanted o (yielded ops a.tmps) = true ∧ ∀ w, Sa w → One P Sb v ((execOp a.eval o).run P w)) ∨
  (Region.wanted o (yielded ops a.tmps) = false ∧ v = undef ∧ ∀ w, Sa w → Sb w)

theorem Does2.wpOp {i : Nat} {o : Oper} {v : Value} {a : Act} (hi : ops[i]? = some o) (hd : Does2 P ops Sa Sb o v a)
    {K : Act → World → Prop} {w : World} (hS : Sa w) (h : ∀ w', Sb w' → K (a.put o.dst v) w') : Go.wpOp P ops Q i K a w := by
  unfold Go.wpOp
  simp only [hi]
  rcases hd with ⟨hw, hv⟩ | ⟨hw, rfl, hab⟩
  · simp only [hw, if_true]
    refine .inl ?_
    have h1 := hv w hS
    unfold Oper.wp
    generalize (execOp a.eval o).run P w = r at *
    cases r with
    | ok n w' =>
      cases n <;> simp only [One] at h1
      case value u =>
        obtain ⟨rfl, h2⟩ := h1
        exact h w' h2
      case enter f args =>
        refine Calls.mono h1 fun e w'' he => ?_
        obtain ⟨rfl, h2⟩ := he
        exact h w'' h2
    | halt x w' => simp only [One] at h1
  · simp only [hw, Bool.false_eq_true, if_false]
    exact h w (hab w hS)

/-- Two frames that are the same where an operation looks. -/
theorem Does2.of_looks {o : Oper} {v : Value} {a a' : Act} (hs : ∀ cs b, o.op ≠ .select cs b) (h : ∀ t ∈ o.looksAt ops, a'.tmps[t]? = a.tmps[t]?) (hd : Does2 P ops Sa Sb o v a) : Does2 P ops Sa Sb o v a' := by
  have he : execOp a'.eval o = execOp a.eval o := execOp_congr o hs fun x hx => by
    cases x with
    | tmp t =>
      have := h t (List.mem_append_left _ (List.mem_filterMap.2 ⟨.tmp t, by simpa using hx, rfl⟩))
      simp only [Act.eval, Array.getD_eq_getD_getElem?, this]
    | _ => rfl
  have hw : Region.wanted o (yielded ops a'.tmps) = Region.wanted o (yielded ops a.tmps) := by
    unfold Region.wanted
    cases hg : o.guard with
    | none => rfl
    | some gw =>
      obtain ⟨g, want⟩ := gw
      have hy : yielded ops a'.tmps g = yielded ops a.tmps g := by
        unfold yielded
        cases ht : (ops[g]?).bind (·.dst) with
        | none => rfl
        | some t =>
          have := h t (List.mem_append_right _ (by simp [hg, ht]))
          simp only [Option.bind_some, this]
      simp only [hy]
  unfold Does2 at *
  rw [he, hw]
  exact hd

theorem wpAny_planX {n g kx : Nat} (S : Bool → World → Prop) (hok : planOkT md ops n = true) (hsel : Region.noSelect ops = true) (vs : Nat → Value) (a : Act)
    (hD : ∀ i o b, i < n → ops[i]? = some o → (i = kx → b = false) → Does2 P ops (S b) (S (b || decide (i = kx))) o (vs i) (puts ops vs (fun _ => true) (List.range i) a))
    (hQ : ∀ (listed : Array Bool) (w' : World), listed.size = ops.size → (∀ k, listed.getD k false = decide (k < n)) → S (listed.getD kx false) w' → wpAny P md ops Q g listed (puts ops vs (fun _ => true) (List.range n) a) w') :
    ∀ (c : Nat) (listed : Array Bool) (w : World), listed.size = ops.size →
      (∀ i o, ops[i]? = some o → listed.getD i false = true → ∀ e ∈ o.after, Region.binds md e = true → listed.getD e.on false = true) →
      (∀ k, n ≤ k → listed.getD k false = false) →
      ((List.range n).filter fun k => !listed.getD k false).length = c → S (listed.getD kx false) w →
      wpAny P md ops Q (c + g) listed (puts ops vs (fun k => listed.getD k false) (List.range n) a) w := by
  have hs := Region.noSelect_spec hsel
  have hns := planOkT_le hok
  have hmin : ∀ (listed : Array Bool), listed.size = ops.size → ∀ k, k < n → listed.getD k false = false → ∃ i, i < n ∧ listed.getD i false = false ∧ i ∈ Region.ready md ops listed := by
    intro listed hsz k
    induction k using Nat.strongRecOn with
    | _ k ih =>
      intro hk hl
      by_cases hmem : k ∈ Region.ready md ops listed
      · exact ⟨k, hk, hl, hmem⟩
      · have hko : ops[k]? = some ops[k] := Array.getElem?_eq_getElem (by omega)
        have : ∃ e ∈ ops[k].after, Region.binds md e = true ∧ listed.getD e.on false = false := by
          apply Classical.byContradiction
          intro hno
          refine hmem ?_
          rw [mem_ready]
          refine ⟨by rw [Array.getD_eq_getD_getElem?] at hl ⊢; rw [Array.getElem?_eq_getElem (by omega)] at hl ⊢; exact hl, ops[k], hko, fun e he hb => ?_⟩
          cases hx : listed.getD e.on false with
          | true => rfl
          | false => exact absurd ⟨e, he, hb, hx⟩ hno
        obtain ⟨e, he, hb, hx⟩ := this
        have hlt := (planOkT_spec hok hko hk).1 e he hb
        exact ih e.on hlt (by omega) hx
  intro c
  induction c with
  | zero =>
    intro listed w hsz hcl htl hle hS
    have hall : ∀ k, k < n → listed.getD k false = true := by
      intro k hk
      cases hl : listed.getD k false with
      | true => rfl
      | false =>
        have hmf : k ∈ (List.range n).filter fun k => !listed.getD k false := by
          rw [List.mem_filter]
          exact ⟨List.mem_range.2 hk, by rw [hl]; rfl⟩
        rw [List.length_eq_zero_iff.1 hle] at hmf
        cases hmf
    rw [puts_congr (m2 := fun _ => true) (List.range n) a (fun k hk => hall k (List.mem_range.1 hk)), Nat.zero_add]
    refine hQ listed w hsz (fun k => ?_) hS
    by_cases hk : k < n
    · rw [hall k hk]; simp [hk]
    · rw [htl k (by omega)]; simp [hk]
  | succ c ih =>
    intro listed w hsz hcl htl hle hS
    rw [show c + 1 + g = (c + g) + 1 by omega]
    have hsome : ∃ k, k < n ∧ listed.getD k false = false := by
      cases hx : (List.range n).filter fun k => !listed.getD k false with
      | nil => rw [hx] at hle; cases hle
      | cons x xs =>
        have hm : x ∈ (List.range n).filter fun k => !listed.getD k false := by rw [hx]; simp
        rw [List.mem_filter] at hm
        exact ⟨x, List.mem_range.1 hm.1, by simpa using hm.2⟩
    obtain ⟨k0, hk0, hl0⟩ := hsome
    refine ⟨fun hr => ?_, fun i hi => ?_⟩
    · obtain ⟨i, _, _, hm⟩ := hmin listed hsz k0 hk0 hl0
      rw [hr] at hm
      cases hm
    obtain ⟨h0, o, ho, hall⟩ := mem_ready.1 hi
    have hin : i < n := by
      apply Classical.byContradiction
      intro hno
      have := anc_listed hcl 5 i o ho hall k0 (planOkT_tail hok ho (by omega) hk0)
      rw [hl0] at this
      cases this
    have hlt : i < ops.size := by omega
    have h0' : listed.getD i false = false := by
      rw [Array.getD_eq_getD_getElem?] at h0 ⊢; rw [Array.getElem?_eq_getElem (by omega)] at h0 ⊢; exact h0
    -- whoever is on the other side of i than in the text is apart from it
    have hap : ∀ k p, ops[k]? = some p → k < n → k ≠ i → (k < i ∧ listed.getD k false = false ∨ i < k ∧ listed.getD k false = true) → p.apart ops o = true ∨ o.apart ops p = true := by
      intro k p hp hkn hki hk
      rcases hk with ⟨hk1, hk2⟩ | ⟨hk1, hk2⟩
      · exact .inl ((planOkT_spec hok ho hin).2 k p hk1 hp (fun e he hb heq => by
          have := hall e he hb
          rw [heq, hk2] at this
          cases this))
      · exact .inr ((planOkT_spec hok hp hkn).2 i o hk1 ho (fun e he hb heq => by
          have := hcl k p hp hk2 e he hb
          rw [heq, h0'] at this
          cases this))
    have hlook : ∀ k p, ops[k]? = some p → k < n → k ≠ i → (k < i ∧ listed.getD k false = false ∨ i < k ∧ listed.getD k false = true) → ∀ t, p.dst = some t → t ∉ o.looksAt ops := by
      intro k p hp hkn hki hk t ht
      rcases hap k p hp hkn hki hk with h | h
      · exact (Oper.apart_spec h).1 t ht
      · exact (Oper.apart_spec h).2.2 t ht
    -- the frame as the operation meets it, and as the text has it
    have hnext : (listed.setIfInBounds i true).getD kx false = (listed.getD kx false || decide (i = kx)) := by
      by_cases e : i = kx
      · subst e
        have : i < listed.size := by omega
        simp [this]
      · rw [getD_set_ne false e]; simp [e]
    have hdoes : Does2 P ops (S (listed.getD kx false)) (S ((listed.setIfInBounds i true).getD kx false)) o (vs i) (puts ops vs (fun k => listed.getD k false) (List.range n) a) := by
      rw [hnext]
      refine Does2.of_looks (fun cs b => hs i o cs b ho) ?_ (hD i o (listed.getD kx false) hin ho (fun e => by subst e; exact h0'))
      intro t ht
      have hsplit : puts ops vs (fun _ => true) (List.range i) a = puts ops vs (fun k => decide (k < i)) (List.range n) a := by
        obtain ⟨d, hd⟩ : ∃ d, n = i + d := ⟨n - i, by omega⟩
        have : ∀ d, puts ops vs (fun _ => true) (List.range i) a = puts ops vs (fun k => decide (k < i)) (List.range (i + d)) a := by
         intro d
         induction d with
         | zero => exact puts_congr _ _ (fun k hk => by simp [List.mem_range.1 hk])
         | succ n ihn =>
          rw [ihn, ← Nat.add_assoc, List.range_succ]
          have happ : ∀ (l1 l2 : List Nat) (m : Nat → Bool) (b : Act), puts ops vs m (l1 ++ l2) b = puts ops vs m l2 (puts ops vs m l1 b) := by
            intro l1
            induction l1 with
            | nil => intros; rfl
            | cons x xs ihx => intro l2 m b; exact ihx l2 m _
          rw [happ]
          have : decide (i + n < i) = false := by simp
          simp [puts, this]
        rw [hd]; exact this d
      rw [hsplit]
      refine puts_get _ _ _ (fun k hk hdst => ?_) rfl rfl
      have hk := List.mem_range.1 hk
      obtain ⟨p, hp⟩ : ∃ p, ops[k]? = some p := ⟨ops[k]'(by omega), Array.getElem?_eq_getElem (by omega)⟩
      simp only [hp, Option.bind_some] at hdst
      by_cases hki : k = i
      · subst hki; simp [h0']
      · cases hl : listed.getD k false with
        | false =>
          by_cases hlt' : k < i
          · exact absurd ht (hlook k p hp hk hki (.inl ⟨hlt', hl⟩) t hdst)
          · simp [hlt']
        | true =>
          by_cases hlt' : k < i
          · simp [hlt']
          · exact absurd ht (hlook k p hp hk hki (.inr ⟨by omega, hl⟩) t hdst)
    refine hdoes.wpOp ho hS (fun w' hS' => ?_)
    have hm' : ∀ k, k ≠ i → (listed.setIfInBounds i true).getD k false = listed.getD k false := fun k hk => getD_set_ne false (Ne.symm hk)
    have hmi : (listed.setIfInBounds i true).getD i false = true := by
      have : i < listed.size := by omega
      simp [this]
    have heq := puts_more (ops := ops) (vs := vs) (m := fun k => listed.getD k false) (m' := fun k => (listed.setIfInBounds i true).getD k false) (i := i) (List.range n) a
      List.pairwise_lt_range (List.mem_range.2 hin) h0' hmi hm' (fun k hk hik hl t ht hkt => by
        have hk := List.mem_range.1 hk
        obtain ⟨p, hp⟩ : ∃ p, ops[k]? = some p := ⟨ops[k]'(by omega), Array.getElem?_eq_getElem (by omega)⟩
        simp only [hp, ho, Option.bind_some] at hkt ht
        rcases hap k p hp hk (by omega) (.inr ⟨hik, hl⟩) with h | h
        · exact (Oper.apart_spec h).2.1 t hkt ht
        · exact (Oper.apart_spec h).2.1 t ht hkt)
    rw [ho, Option.bind_some] at heq
    rw [← heq]
    refine ih _ w' (by simpa using hsz) ?_ (fun k hk => by rw [hm' k (by omega)]; exact htl k hk) ?_ hS'
    · intro j p hp hj e he hb
      by_cases hji : j = i
      · subst hji
        rw [ho] at hp; cases hp
        exact getD_set_true (hall e he hb)
      · rw [hm' j hji] at hj
        exact getD_set_true (hcl j p hp hj e he hb)
    · have hlen : ((List.range n).filter fun k => !(listed.setIfInBounds i true).getD k false).length + 1 = ((List.range n).filter fun k => !listed.getD k false).length := by
        refine filt_one (i := i) _ List.nodup_range (List.mem_range.2 hin) (fun k hk => ?_) (by simpa using h0') (by simpa using hmi)
        rw [hm' k hk]
      omega


def PlanX (D : Nat → Oper → Value → Act → Prop) (K : Act → Prop) : Nat → List Oper → Act → Prop
  | _, [], a => K a
  | m, o :: r, a => ∃ v, D m o v a ∧ PlanX D K (m + 1) r (a.put o.dst v)

theorem PlanX.take {D : Nat → Oper → Value → Act → Prop} {K : Act → Prop} (n : Nat) : ∀ (l : List Oper) (m : Nat) (a : Act), (ops.toList.take n).drop m = l → m ≤ n → n ≤ ops.size → PlanX D K m l a →
    ∃ vs : Nat → Value, (∀ i o, m ≤ i → i < n → ops[i]? = some o → D i o (vs i) (Proofs.YtcplegelppfdeaaDoor.puts ops vs (fun _ => true) ((List.range (i - m)).map (· + m)) a)) ∧
      K (Proofs.YtcplegelppfdeaaDoor.puts ops vs (fun _ => true) ((List.range (n - m)).map (· + m)) a)
  | [], m, a, hl, hmn, hns, h => by
    have hn : n ≤ m := by
      have := congrArg List.length hl
      simp at this
      omega
    refine ⟨fun _ => undef, fun i o hi hin ho => by omega, ?_⟩
    rw [Nat.sub_eq_zero_of_le hn]
    exact h
  | o :: r, m, a, hl, hmn, hns, h => by
    obtain ⟨v, hv, hr⟩ := h
    have hn : m < n := by
      have := congrArg List.length hl
      simp at this
      omega
    have hdrop : (ops.toList.take n).drop m = ops[m]'(by omega) :: (ops.toList.take n).drop (m + 1) := by
      rw [List.drop_eq_getElem_cons (by simp; omega)]
      simp
    rw [hl] at hdrop
    obtain ⟨e1, e2⟩ := List.cons.inj hdrop
    have hon : ops[m]? = some o := by rw [Array.getElem?_eq_getElem (by omega), e1]
    obtain ⟨vs, h1, h2⟩ := PlanX.take n r (m + 1) (a.put o.dst v) e2.symm (by omega) hns hr
    let vs' : Nat → Value := fun k => if k = m then v else vs k
    have same : ∀ (j : Nat) (b : Act), Proofs.YtcplegelppfdeaaDoor.puts ops vs' (fun _ => true) ((List.range j).map (· + (m + 1))) b = Proofs.YtcplegelppfdeaaDoor.puts ops vs (fun _ => true) ((List.range j).map (· + (m + 1))) b := by
      intro j b
      refine puts_vals _ _ (fun k hk => ?_)
      obtain ⟨x, _, rfl⟩ := List.mem_map.1 hk
      exact if_neg (by omega)
    have first : ∀ j, m < j → Proofs.YtcplegelppfdeaaDoor.puts ops vs' (fun _ => true) ((List.range (j - m)).map (· + m)) a = Proofs.YtcplegelppfdeaaDoor.puts ops vs (fun _ => true) ((List.range (j - (m + 1))).map (· + (m + 1))) (a.put o.dst v) := by
      intro j hj
      have hr : (List.range (j - m)).map (· + m) = m :: (List.range (j - (m + 1))).map (· + (m + 1)) := by
        rw [show j - m = (j - (m + 1)) + 1 by omega, List.range_succ_eq_map, List.map_cons, List.map_map]
        congr 1
        · omega
        · apply List.map_congr_left
          intro x _
          show x + 1 + m = x + (m + 1)
          omega
      rw [hr]
      show Proofs.YtcplegelppfdeaaDoor.puts ops vs' (fun _ => true) _ (if true = true then a.put ((ops[m]?).bind (·.dst)) (vs' m) else a) = _
      rw [if_pos rfl, hon, show vs' m = v from if_pos rfl]
      exact same _ _
    refine ⟨vs', fun i o' hi hin ho => ?_, ?_⟩
    · by_cases him : i = m
      · subst him
        rw [hon] at ho; cases ho
        rw [Nat.sub_self, show vs' i = v from if_pos rfl]
        exact hv
      · rw [first i (by omega), show vs' i = vs i from if_neg him]
        exact h1 i o' (by omega) hin ho
    · rw [first n hn]
      exact h2


/-- What each operation owes: the kx-th turns S false into S true, all others keep both. -/
def OwesX (P : Program) (ops : Array Oper) (S : Bool → World → Prop) (kx i : Nat) (o : Oper) (v : Value) (a : Act) : Prop :=
  ∀ b, (i = kx → b = false) → Does2 P ops (S b) (S (b || decide (i = kx))) o v a
/-- THE REGION: its first n in whatever order; then what is left, one by one. -/
theorem wp_region_planX {id : Nat} {a : Act} {w : World} (n kx : Nat) (S : Bool → World → Prop) (hk : kx < n) (hm : P.follows .mixedOrders = true) (hok : planOkT .any ops n = true) (hsel : Region.noSelect ops = true)
    (hseq : Region.seqB .any ops (ops.size - n) n (heads ops.size n) = true) (hS : S false w.drew)
    (h : PlanX (OwesX P ops S kx) (fun a' => ∀ w', S true w' → wpList P ops Q (ops.toList.drop n) a' w') 0 (ops.toList.take n) a) : (Code.region id ops true).wp P Q a w := by
  have hns := planOkT_le hok
  obtain ⟨vs, h1, h2⟩ := PlanX.take n (ops.toList.take n) 0 a rfl (Nat.zero_le _) hns h
  refine wp_region_any hm ?_
  have hz : ∀ k, (Array.replicate ops.size false).getD k false = false := fun k => by
    rw [Array.getD_eq_getD_getElem?, Array.getElem?_replicate]; split <;> rfl
  rw [Nat.sub_zero, map_zero] at h2
  have hlen : (ops.toList.drop n).length = ops.size - n := by simp
  have h3 := wpAny_planX (Q := Q) (n := n) (g := ops.size - n) (kx := kx) S hok hsel vs a (fun i o b hin ho hb => by have := h1 i o (Nat.zero_le _) hin ho b hb; rwa [Nat.sub_zero, map_zero] at this)
    (fun listed w' hsz hl hS' => by
      rw [hl kx, decide_eq_true hk] at hS'
      rw [heads_of hns hsz hl, ← hlen]
      refine wpAny_of_seq (ops.toList.drop n) n _ _ _ (fun j => by simp) (by rw [hlen]; exact hseq) (h2 w' hS'))
    n (Array.replicate ops.size false) w.drew (by simp) (fun i o _ hl => by rw [hz] at hl; cases hl) (fun k _ => hz k) (by
      rw [List.filter_eq_self.2 (fun k _ => by rw [hz]; rfl)]
      simp) (by rw [hz]; exact hS)
  have h4 : Proofs.YtcplegelppfdeaaDoor.puts ops vs (fun k => (Array.replicate ops.size false).getD k false) (List.range n) a = a := by
    have : ∀ (ks : List Nat), Proofs.YtcplegelppfdeaaDoor.puts ops vs (fun k => (Array.replicate ops.size false).getD k false) ks a = a := by
      intro ks
      induction ks with
      | nil => rfl
      | cons x xs ih =>
        unfold Proofs.YtcplegelppfdeaaDoor.puts
        rw [hz]
        exact ih
    exact this _
  rw [h4, show n + (ops.size - n) = ops.size by omega] at h3
  exact h3
variable {S : Bool → World → Prop} {K : Act → Prop} {o : Oper} {r : List Oper} {a : Act} {kx m : Nat} {v : Value}
theorem PlanX.done (h : K a) : PlanX (OwesX P ops S kx) K m [] a := h
/-- It yields v, and turns nothing. -/
theorem PlanX.val (hmk : m ≠ kx) (hw : Region.wanted o (yielded ops a.tmps) = true) (hv : ∀ b w, S b w → (execOp a.eval o).run P w = .ok (.value v) w)
    (h : PlanX (OwesX P ops S kx) K (m + 1) r (a.put o.dst v)) : PlanX (OwesX P ops S kx) K m (o :: r) a :=
  ⟨v, fun b _ => by
    rw [show decide (m = kx) = false from decide_eq_false hmk, Bool.or_false]
    exact .inl ⟨hw, fun w hS => by rw [hv b w hS]; exact ⟨rfl, hS⟩⟩, h⟩
/-- It is the one that turns the condition: a call. -/
theorem PlanX.turn {f : FuncId} {args : Array Value} (hmk : m = kx) (hw : Region.wanted o (yielded ops a.tmps) = true)
    (hv : ∀ w, S false w → (execOp a.eval o).run P w = .ok (.enter f args) w) (hc : ∀ w, S false w → Calls P f args w fun e w' => e = .returned v ∧ S true w')
    (h : PlanX (OwesX P ops S kx) K (m + 1) r (a.put o.dst v)) : PlanX (OwesX P ops S kx) K m (o :: r) a :=
  ⟨v, fun b hb => by
    rw [hb hmk, show decide (m = kx) = true from decide_eq_true hmk, Bool.false_or]
    exact .inl ⟨hw, fun w hS => by rw [hv w hS]; exact hc w hS⟩, h⟩
end
end Go.Proofs.YtcplegelppfdeaaDoor
