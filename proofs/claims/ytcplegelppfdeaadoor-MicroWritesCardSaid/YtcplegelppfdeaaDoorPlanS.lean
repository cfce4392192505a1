/-
  As PlanXD, where many operations turn the condition: it is one of the operations that are done.
-/
import Derived.Test.YtcplegelppfdeaaDoorPlanXD
import Derived.Test.YtcplegelppfdeaaDoorPlanR
set_option linter.unusedSimpArgs false
set_option linter.unusedVariables false
namespace Go.Proofs.YtcplegelppfdeaaDoor
open Go

section
variable {P : Program} {ops : Array Oper} {Q : Exit → Act → World → Prop} {md : Region.Mode}
theorem wpAny_planS {n g dd : Nat} (S : (Nat → Bool) → World → Prop) (hok : planOkD md ops n dd = true) (hsel : Region.noSelect ops = true) (vs : Nat → Value) (a : Act)
    (hD : ∀ i o (l : Nat → Bool), i < n → ops[i]? = some o → l i = false → (∀ e ∈ o.after, Region.binds md e = true → l e.on = true) → (∀ j p, ops[j]? = some p → l j = true → ∀ e ∈ p.after, Region.binds md e = true → l e.on = true) → Does2 P ops (S l) (S fun k => l k || decide (k = i)) o (vs i) (puts ops vs (fun _ => true) (List.range i) a))
    (hQ : ∀ (listed : Array Bool) (w' : World), listed.size = ops.size → (∀ k, listed.getD k false = decide (k < n)) → S (fun k => listed.getD k false) w' → wpAny P md ops Q g listed (puts ops vs (fun _ => true) (List.range n) a) w') :
    ∀ (c : Nat) (listed : Array Bool) (w : World), listed.size = ops.size →
      (∀ i o, ops[i]? = some o → listed.getD i false = true → ∀ e ∈ o.after, Region.binds md e = true → listed.getD e.on false = true) →
      (∀ k, n ≤ k → listed.getD k false = false) →
      ((List.range n).filter fun k => !listed.getD k false).length = c → S (fun k => listed.getD k false) w →
      wpAny P md ops Q (c + g) listed (puts ops vs (fun k => listed.getD k false) (List.range n) a) w := by
  have hs := Region.noSelect_spec hsel
  have hns := planOkD_le hok
  have hmin : ∀ (listed : Array Bool), listed.size = ops.size → ∀ k, k < n → listed.getD k false = false → ∃ i, i < n ∧ listed.getD i false = false ∧ i ∈ Region.ready md ops listed := by
    intro listed hsz k
    induction k using Nat.strongRecOn with
    | _ k ih =>
      intro hk hl
      by_cases hmem : k ∈ Region.ready md ops listed
      · exact ⟨k, hk, hl, hmem⟩
      · have hko : ops[k]? = some ops[k] := Array.getElem?_eq_getElem (by omega)
        have : ∃ e ∈ ops[k].after, Region.binds md e = true ∧ listed.getD e.on false = false := by
          apply Classical.byContradiction
          intro hno
          refine hmem ?_
          rw [mem_ready]
          refine ⟨by rw [Array.getD_eq_getD_getElem?] at hl ⊢; rw [Array.getElem?_eq_getElem (by omega)] at hl ⊢; exact hl, ops[k], hko, fun e he hb => ?_⟩
          cases hx : listed.getD e.on false with
          | true => rfl
          | false => exact absurd ⟨e, he, hb, hx⟩ hno
        obtain ⟨e, he, hb, hx⟩ := this
        have hlt := (planOkD_spec hok hko hk).1 e he hb
        exact ih e.on hlt (by omega) hx
  intro c
  induction c with
  | zero =>
    intro listed w hsz hcl htl hle hS
    have hall : ∀ k, k < n → listed.getD k false = true := by
      intro k hk
      cases hl : listed.getD k false with
      | true => rfl
      | false =>
        have hmf : k ∈ (List.range n).filter fun k => !listed.getD k false := by
          rw [List.mem_filter]
          exact ⟨List.mem_range.2 hk, by rw [hl]; rfl⟩
        rw [List.length_eq_zero_iff.1 hle] at hmf
        cases hmf
    rw [puts_congr (m2 := fun _ => true) (List.range n) a (fun k hk => hall k (List.mem_range.1 hk)), Nat.zero_add]
    refine hQ listed w hsz (fun k => ?_) hS
    by_cases hk : k < n
    · rw [hall k hk]; simp [hk]
    · rw [htl k (by omega)]; simp [hk]
  | succ c ih =>
    intro listed w hsz hcl htl hle hS
    rw [show c + 1 + g = (c + g) + 1 by omega]
    have hsome : ∃ k, k < n ∧ listed.getD k false = false := by
      cases hx : (List.range n).filter fun k => !listed.getD k false with
      | nil => rw [hx] at hle; cases hle
      | cons x xs =>
        have hm : x ∈ (List.range n).filter fun k => !listed.getD k false := by rw [hx]; simp
        rw [List.mem_filter] at hm
        exact ⟨x, List.mem_range.1 hm.1, by simpa using hm.2⟩
    obtain ⟨k0, hk0, hl0⟩ := hsome
    refine ⟨fun hr => ?_, fun i hi => ?_⟩
    · obtain ⟨i, _, _, hm⟩ := hmin listed hsz k0 hk0 hl0
      rw [hr] at hm
      cases hm
    obtain ⟨h0, o, ho, hall⟩ := mem_ready.1 hi
    have hin : i < n := by
      apply Classical.byContradiction
      intro hno
      have := anc_listed hcl dd i o ho hall k0 (planOkD_tail hok ho (by omega) hk0)
      rw [hl0] at this
      cases this
    have hlt : i < ops.size := by omega
    have h0' : listed.getD i false = false := by
      rw [Array.getD_eq_getD_getElem?] at h0 ⊢; rw [Array.getElem?_eq_getElem (by omega)] at h0 ⊢; exact h0
    -- whoever is on the other side of i than in the text is apart from it
    have hap : ∀ k p, ops[k]? = some p → k < n → k ≠ i → (k < i ∧ listed.getD k false = false ∨ i < k ∧ listed.getD k false = true) → p.apart ops o = true ∨ o.apart ops p = true := by
      intro k p hp hkn hki hk
      rcases hk with ⟨hk1, hk2⟩ | ⟨hk1, hk2⟩
      · exact .inl ((planOkD_spec hok ho hin).2 k p hk1 hp (fun e he hb heq => by
          have := hall e he hb
          rw [heq, hk2] at this
          cases this))
      · exact .inr ((planOkD_spec hok hp hkn).2 i o hk1 ho (fun e he hb heq => by
          have := hcl k p hp hk2 e he hb
          rw [heq, h0'] at this
          cases this))
    have hlook : ∀ k p, ops[k]? = some p → k < n → k ≠ i → (k < i ∧ listed.getD k false = false ∨ i < k ∧ listed.getD k false = true) → ∀ t, p.dst = some t → t ∉ o.looksAt ops := by
      intro k p hp hkn hki hk t ht
      rcases hap k p hp hkn hki hk with h | h
      · exact (Oper.apart_spec h).1 t ht
      · exact (Oper.apart_spec h).2.2 t ht
    -- the frame as the operation meets it, and as the text has it
    have hnext : (fun k => (listed.setIfInBounds i true).getD k false) = fun k => (listed.getD k false || decide (k = i)) := by
      funext k
      by_cases e : k = i
      · subst e
        have : k < listed.size := by omega
        simp [this]
      · rw [getD_set_ne false (Ne.symm e)]; simp [e]
    have hdoes : Does2 P ops (S fun k => listed.getD k false) (S fun k => (listed.setIfInBounds i true).getD k false) o (vs i) (puts ops vs (fun k => listed.getD k false) (List.range n) a) := by
      rw [hnext]
      refine Does2.of_looks (fun cs b => hs i o cs b ho) ?_ (hD i o (fun k => listed.getD k false) hin ho h0' (fun e he hb => hall e he hb) hcl)
      intro t ht
      have hsplit : puts ops vs (fun _ => true) (List.range i) a = puts ops vs (fun k => decide (k < i)) (List.range n) a := by
        obtain ⟨d, hd⟩ : ∃ d, n = i + d := ⟨n - i, by omega⟩
        have : ∀ d, puts ops vs (fun _ => true) (List.range i) a = puts ops vs (fun k => decide (k < i)) (List.range (i + d)) a := by
         intro d
         induction d with
         | zero => exact puts_congr _ _ (fun k hk => by simp [List.mem_range.1 hk])
         | succ n ihn =>
          rw [ihn, ← Nat.add_assoc, List.range_succ]
          have happ : ∀ (l1 l2 : List Nat) (m : Nat → Bool) (b : Act), puts ops vs m (l1 ++ l2) b = puts ops vs m l2 (puts ops vs m l1 b) := by
            intro l1
            induction l1 with
            | nil => intros; rfl
            | cons x xs ihx => intro l2 m b; exact ihx l2 m _
          rw [happ]
          have : decide (i + n < i) = false := by simp
          simp [puts, this]
        rw [hd]; exact this d
      rw [hsplit]
      refine puts_get _ _ _ (fun k hk hdst => ?_) rfl rfl
      have hk := List.mem_range.1 hk
      obtain ⟨p, hp⟩ : ∃ p, ops[k]? = some p := ⟨ops[k]'(by omega), Array.getElem?_eq_getElem (by omega)⟩
      simp only [hp, Option.bind_some] at hdst
      by_cases hki : k = i
      · subst hki; simp [h0']
      · cases hl : listed.getD k false with
        | false =>
          by_cases hlt' : k < i
          · exact absurd ht (hlook k p hp hk hki (.inl ⟨hlt', hl⟩) t hdst)
          · simp [hlt']
        | true =>
          by_cases hlt' : k < i
          · simp [hlt']
          · exact absurd ht (hlook k p hp hk hki (.inr ⟨by omega, hl⟩) t hdst)
    refine hdoes.wpOp ho hS (fun w' hS' => ?_)
    have hm' : ∀ k, k ≠ i → (listed.setIfInBounds i true).getD k false = listed.getD k false := fun k hk => getD_set_ne false (Ne.symm hk)
    have hmi : (listed.setIfInBounds i true).getD i false = true := by
      have : i < listed.size := by omega
      simp [this]
    have heq := puts_more (ops := ops) (vs := vs) (m := fun k => listed.getD k false) (m' := fun k => (listed.setIfInBounds i true).getD k false) (i := i) (List.range n) a
      List.pairwise_lt_range (List.mem_range.2 hin) h0' hmi hm' (fun k hk hik hl t ht hkt => by
        have hk := List.mem_range.1 hk
        obtain ⟨p, hp⟩ : ∃ p, ops[k]? = some p := ⟨ops[k]'(by omega), Array.getElem?_eq_getElem (by omega)⟩
        simp only [hp, ho, Option.bind_some] at hkt ht
        rcases hap k p hp hk (by omega) (.inr ⟨hik, hl⟩) with h | h
        · exact (Oper.apart_spec h).2.1 t hkt ht
        · exact (Oper.apart_spec h).2.1 t ht hkt)
    rw [ho, Option.bind_some] at heq
    rw [← heq]
    refine ih _ w' (by simpa using hsz) ?_ (fun k hk => by rw [hm' k (by omega)]; exact htl k hk) ?_ hS'
    · intro j p hp hj e he hb
      by_cases hji : j = i
      · subst hji
        rw [ho] at hp; cases hp
        exact getD_set_true (hall e he hb)
      · rw [hm' j hji] at hj
        exact getD_set_true (hcl j p hp hj e he hb)
    · have hlen : ((List.range n).filter fun k => !(listed.setIfInBounds i true).getD k false).length + 1 = ((List.range n).filter fun k => !listed.getD k false).length := by
        refine filt_one (i := i) _ List.nodup_range (List.mem_range.2 hin) (fun k hk => ?_) (by simpa using h0') (by simpa using hmi)
        rw [hm' k hk]
      omega
/-- What each operation owes: from the condition of what is done to that of it as well. -/
def OwesS (P : Program) (ops : Array Oper) (S : (Nat → Bool) → World → Prop) (i : Nat) (o : Oper) (v : Value) (a : Act) : Prop :=
  ∀ l : Nat → Bool, l i = false → (∀ e ∈ o.after, Region.binds .any e = true → l e.on = true) → (∀ j p, ops[j]? = some p → l j = true → ∀ e ∈ p.after, Region.binds .any e = true → l e.on = true) → Does2 P ops (S l) (S fun k => l k || decide (k = i)) o v a
/-- THE REGION: its first n in whatever order; then what is left, one by one. -/
theorem wp_region_planS {id : Nat} {a : Act} {w : World} (dd n : Nat) (S : (Nat → Bool) → World → Prop) (hm : P.follows .mixedOrders = true) (hok : planOkD .any ops n dd = true) (hsel : Region.noSelect ops = true)
    (hseq : Region.seqB .any ops (ops.size - n) n (heads ops.size n) = true) (hS : S (fun _ => false) w.drew)
    (h : PlanX (OwesS P ops S) (fun a' => ∀ w', S (fun k => decide (k < n)) w' → wpList P ops Q (ops.toList.drop n) a' w') 0 (ops.toList.take n) a) : (Code.region id ops true).wp P Q a w := by
  have hns := planOkD_le hok
  obtain ⟨vs, h1, h2⟩ := PlanX.take n (ops.toList.take n) 0 a rfl (Nat.zero_le _) hns h
  refine wp_region_any hm ?_
  have hz : ∀ k, (Array.replicate ops.size false).getD k false = false := fun k => by
    rw [Array.getD_eq_getD_getElem?, Array.getElem?_replicate]; split <;> rfl
  rw [Nat.sub_zero, map_zero] at h2
  have hlen : (ops.toList.drop n).length = ops.size - n := by simp
  have h3 := wpAny_planS (Q := Q) (n := n) (g := ops.size - n) S hok hsel vs a (fun i o l hin ho hl hb hq => by have := h1 i o (Nat.zero_le _) hin ho l hl hb hq; rwa [Nat.sub_zero, map_zero] at this)
    (fun listed w' hsz hl hS' => by
      rw [show (fun k => listed.getD k false) = fun k => decide (k < n) from funext hl] at hS'
      rw [heads_of hns hsz hl, ← hlen]
      refine wpAny_of_seq (ops.toList.drop n) n _ _ _ (fun j => by simp) (by rw [hlen]; exact hseq) (h2 w' hS'))
    n (Array.replicate ops.size false) w.drew (by simp) (fun i o _ hl => by rw [hz] at hl; cases hl) (fun k _ => hz k) (by
      rw [List.filter_eq_self.2 (fun k _ => by rw [hz]; rfl)]
      simp) (by rw [show (fun k => (Array.replicate ops.size false).getD k false) = fun _ => false from funext hz]; exact hS)
  have h4 : Proofs.YtcplegelppfdeaaDoor.puts ops vs (fun k => (Array.replicate ops.size false).getD k false) (List.range n) a = a := by
    have : ∀ (ks : List Nat), Proofs.YtcplegelppfdeaaDoor.puts ops vs (fun k => (Array.replicate ops.size false).getD k false) ks a = a := by
      intro ks
      induction ks with
      | nil => rfl
      | cons x xs ih =>
        unfold Proofs.YtcplegelppfdeaaDoor.puts
        rw [hz]
        exact ih
    exact this _
  rw [h4, show n + (ops.size - n) = ops.size by omega] at h3
  exact h3
variable {S : (Nat → Bool) → World → Prop} {K : Act → Prop} {o : Oper} {r : List Oper} {a : Act} {m : Nat} {v : Value}
theorem PlanS.done (h : K a) : PlanX (OwesS P ops S) K m [] a := h
/-- It yields v, and turns nothing. -/
theorem PlanS.val (hmk : ∀ l, S (fun k => l k || decide (k = m)) = S l) (hw : Region.wanted o (yielded ops a.tmps) = true) (hv : ∀ l w, S l w → (∀ e ∈ o.after, Region.binds .any e = true → l e.on = true) → (execOp a.eval o).run P w = .ok (.value v) w)
    (h : PlanX (OwesS P ops S) K (m + 1) r (a.put o.dst v)) : PlanX (OwesS P ops S) K m (o :: r) a :=
  ⟨v, fun l _ he _ => by
    rw [hmk l]
    exact .inl ⟨hw, fun w hS => by rw [hv l w hS he]; exact ⟨rfl, hS⟩⟩, h⟩
/-- It yields v, and turns the condition. -/
theorem PlanS.turn (hw : Region.wanted o (yielded ops a.tmps) = true) (hv : ∀ l w, S l w → l m = false → (∀ e ∈ o.after, Region.binds .any e = true → l e.on = true) → (∀ j p, ops[j]? = some p → l j = true → ∀ e ∈ p.after, Region.binds .any e = true → l e.on = true) → ∃ w', (execOp a.eval o).run P w = .ok (.value v) w' ∧ S (fun k => l k || decide (k = m)) w')
    (h : PlanX (OwesS P ops S) K (m + 1) r (a.put o.dst v)) : PlanX (OwesS P ops S) K m (o :: r) a :=
  ⟨v, fun l hl he hq => .inl ⟨hw, fun w hS => by
    obtain ⟨w', h1, h2⟩ := hv l w hS hl he hq
    rw [h1]
    exact ⟨rfl, h2⟩⟩, h⟩
end
end Go.Proofs.YtcplegelppfdeaaDoor
