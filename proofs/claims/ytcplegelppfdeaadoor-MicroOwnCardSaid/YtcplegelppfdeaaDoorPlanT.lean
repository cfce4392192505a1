/-
  A region that draws its order, whose last operations wait for all others: the others by Plan, the last ones in their order.
-/
import Derived.Test.YtcplegelppfdeaaDoorPlan
import Derived.StillTail
import Derived.Below
set_option linter.unusedSimpArgs false
set_option linter.unusedVariables false
namespace Go.Proofs.YtcplegelppfdeaaDoor
open Go

section
variable {P : Program} {ops : Array Oper} {Q : Exit → Act → World → Prop} {md : Region.Mode} {S : World → Prop}

/-- A mark is as it was behind a call that only makes memory. -/
theorem kfz {W w1 : World} (hb : RowKit.Below W.heap.size W w1) {b o : Nat} (hlt : b < W.heap.size) (h : W.frozen? ⟨b, o, none⟩ = false) : w1.frozen? ⟨b, o, none⟩ = false := (hb.frozen (p := ⟨b, o, none⟩) hlt).trans h

/-- What an operation waits for, and what that waits for, so many steps far. -/
def anc (md : Region.Mode) (ops : Array Oper) : Nat → Nat → List Nat
  | 0, _ => []
  | f + 1, i => match ops[i]? with
    | none => []
    | some o => (o.after.toList.filter fun e => Region.binds md e).flatMap fun e => e.on :: anc md ops f e.on
theorem anc_listed {listed : Array Bool} (hcl : ∀ i o, ops[i]? = some o → listed.getD i false = true → ∀ e ∈ o.after, Region.binds md e = true → listed.getD e.on false = true) :
    ∀ (f i : Nat) (o : Oper), ops[i]? = some o → (∀ e ∈ o.after, Region.binds md e = true → listed.getD e.on false = true) → ∀ j ∈ anc md ops f i, listed.getD j false = true
  | 0, _, _, _, _, j, hj => by simp [anc] at hj
  | f + 1, i, o, ho, h, j, hj => by
    simp only [anc, ho, List.mem_flatMap, List.mem_filter, List.mem_cons] at hj
    obtain ⟨e, ⟨he, hb⟩, hj⟩ := hj
    have he' : e ∈ o.after := Array.mem_toList_iff.1 he
    rcases hj with rfl | hj
    · exact h e he' hb
    · cases hp : ops[e.on]? with
      | none =>
        cases f with
        | zero => simp [anc] at hj
        | succ f => simp [anc, hp] at hj
      | some p => exact anc_listed hcl f e.on p hp (fun e' he' hb' => hcl e.on p hp (h e ‹_› hb) e' he' hb') j hj

/-- As planOk, of the first n; each one behind them waits for each of them. -/
def planOkT (md : Region.Mode) (ops : Array Oper) (n : Nat) : Bool :=
  decide (n ≤ ops.size) && ((List.range n).all fun i => match ops[i]? with
    | none => true
    | some o => (o.after.all fun e => !Region.binds md e || decide (e.on < i)) &&
      (List.range i).all fun j => (o.after.any fun e => Region.binds md e && e.on == j) || (match ops[j]? with | some p => p.apart ops o | none => true)) &&
  (List.range (ops.size - n)).all fun d => match ops[n + d]? with
    | none => true
    | some o => (List.range n).all fun j => (anc md ops 5 (n + d)).contains j

theorem planOkT_spec {n : Nat} (h : planOkT md ops n = true) {i : Nat} {o : Oper} (ho : ops[i]? = some o) (hlt : i < n) :
    (∀ e ∈ o.after, Region.binds md e = true → e.on < i) ∧ ∀ j p, j < i → ops[j]? = some p → (∀ e ∈ o.after, Region.binds md e = true → e.on ≠ j) → p.apart ops o = true := by
  unfold planOkT at h
  simp only [Bool.and_eq_true] at h
  have h1 := List.all_eq_true.1 h.1.2 i (List.mem_range.2 hlt)
  simp only [ho, Bool.and_eq_true] at h1
  obtain ⟨h1, h2⟩ := h1
  refine ⟨fun e he hb => ?_, fun j p hj hp hno => ?_⟩
  · have := Array.all_eq_true_iff_forall_mem.1 h1 e he
    simpa [hb] using this
  · have := List.all_eq_true.1 h2 j (List.mem_range.2 hj)
    simp only [hp, Bool.or_eq_true] at this
    rcases this with this | this
    · obtain ⟨n, hn, hb⟩ := Array.any_eq_true.1 this
      simp only [Bool.and_eq_true, beq_iff_eq] at hb
      exact absurd hb.2 (hno _ (Array.getElem_mem hn) hb.1)
    · exact this
theorem planOkT_tail {n : Nat} (h : planOkT md ops n = true) {i : Nat} {o : Oper} (ho : ops[i]? = some o) (hle : n ≤ i) {j : Nat} (hj : j < n) : j ∈ anc md ops 5 i := by
  have hlt : i < ops.size := (Array.getElem?_eq_some_iff.1 ho).1
  unfold planOkT at h
  simp only [Bool.and_eq_true] at h
  have h1 := List.all_eq_true.1 h.2 (i - n) (List.mem_range.2 (by omega))
  rw [show n + (i - n) = i by omega, ho] at h1
  have h2 := List.all_eq_true.1 h1 j (List.mem_range.2 hj)
  simpa using h2
theorem planOkT_le {n : Nat} (h : planOkT md ops n = true) : n ≤ ops.size := by
  unfold planOkT at h
  simp only [Bool.and_eq_true, decide_eq_true_eq] at h
  exact h.1.1

theorem filt_one {p q : Nat → Bool} {i : Nat} : ∀ l : List Nat, l.Nodup → i ∈ l → (∀ k, k ≠ i → q k = p k) → p i = true → q i = false → (l.filter q).length + 1 = (l.filter p).length
  | [], _, h, _, _, _ => by cases h
  | x :: xs, hn, h, he, hp, hq => by
    obtain ⟨hx, hn⟩ := List.nodup_cons.1 hn
    rw [List.filter_cons, List.filter_cons]
    by_cases e : x = i
    · subst e
      have : xs.filter q = xs.filter p := List.filter_congr (fun k hk => he k (fun e => hx (e ▸ hk)))
      simp [hp, hq, this]
    · have hi : i ∈ xs := by
        rcases List.mem_cons.1 h with h | h
        · exact absurd h.symm e
        · exact h
      have ih := filt_one xs hn hi he hp hq
      rw [he x e]
      cases p x <;> simp <;> omega

theorem wpAny_planG {n g : Nat} (skip : Nat → Bool) (Inv : Array Bool → Prop) (hok : planOkT md ops n = true) (hsel : Region.noSelect ops = true) (vs : Nat → Value) (a : Act)
    (hD : ∀ i o, i < n → skip i = false → ops[i]? = some o → Does P ops S o (vs i) (puts ops vs (fun _ => true) (List.range i) a))
    (hQ : ∀ (listed : Array Bool) (w' : World), listed.size = ops.size → (∀ k, listed.getD k false = decide (k < n)) → Inv listed → S w' → wpAny P md ops Q g listed (puts ops vs (fun _ => true) (List.range n) a) w')
    (hI : ∀ listed i, skip i = false → Inv listed → Inv (listed.setIfInBounds i true))
    (hH : ∀ (c : Nat) (listed : Array Bool) (w : World) (i : Nat) (o : Oper), ops[i]? = some o → i < n → skip i = true → Inv listed → listed.size = ops.size → listed.getD i false = false →
      (∀ i o, ops[i]? = some o → listed.getD i false = true → ∀ e ∈ o.after, Region.binds md e = true → listed.getD e.on false = true) →
      (∀ e ∈ o.after, Region.binds md e = true → listed.getD e.on false = true) →
      (∀ k, n ≤ k → listed.getD k false = false) → ((List.range n).filter fun k => !listed.getD k false).length = c + 1 → S w →
      wpOp P ops Q i (fun a' w' => wpAny P md ops Q (c + g) (listed.setIfInBounds i true) a' w') (puts ops vs (fun k => listed.getD k false) (List.range n) a) w) :
    ∀ (c : Nat) (listed : Array Bool) (w : World), listed.size = ops.size → Inv listed →
      (∀ i o, ops[i]? = some o → listed.getD i false = true → ∀ e ∈ o.after, Region.binds md e = true → listed.getD e.on false = true) →
      (∀ k, n ≤ k → listed.getD k false = false) →
      ((List.range n).filter fun k => !listed.getD k false).length = c → S w →
      wpAny P md ops Q (c + g) listed (puts ops vs (fun k => listed.getD k false) (List.range n) a) w := by
  have hs := Region.noSelect_spec hsel
  have hns := planOkT_le hok
  have hmin : ∀ (listed : Array Bool), listed.size = ops.size → ∀ k, k < n → listed.getD k false = false → ∃ i, i < n ∧ listed.getD i false = false ∧ i ∈ Region.ready md ops listed := by
    intro listed hsz k
    induction k using Nat.strongRecOn with
    | _ k ih =>
      intro hk hl
      by_cases hmem : k ∈ Region.ready md ops listed
      · exact ⟨k, hk, hl, hmem⟩
      · have hko : ops[k]? = some ops[k] := Array.getElem?_eq_getElem (by omega)
        have : ∃ e ∈ ops[k].after, Region.binds md e = true ∧ listed.getD e.on false = false := by
          apply Classical.byContradiction
          intro hno
          refine hmem ?_
          rw [mem_ready]
          refine ⟨by rw [Array.getD_eq_getD_getElem?] at hl ⊢; rw [Array.getElem?_eq_getElem (by omega)] at hl ⊢; exact hl, ops[k], hko, fun e he hb => ?_⟩
          cases hx : listed.getD e.on false with
          | true => rfl
          | false => exact absurd ⟨e, he, hb, hx⟩ hno
        obtain ⟨e, he, hb, hx⟩ := this
        have hlt := (planOkT_spec hok hko hk).1 e he hb
        exact ih e.on hlt (by omega) hx
  intro c
  induction c with
  | zero =>
    intro listed w hsz hinv hcl htl hle hS
    have hall : ∀ k, k < n → listed.getD k false = true := by
      intro k hk
      cases hl : listed.getD k false with
      | true => rfl
      | false =>
        have hmf : k ∈ (List.range n).filter fun k => !listed.getD k false := by
          rw [List.mem_filter]
          exact ⟨List.mem_range.2 hk, by rw [hl]; rfl⟩
        rw [List.length_eq_zero_iff.1 hle] at hmf
        cases hmf
    rw [puts_congr (m2 := fun _ => true) (List.range n) a (fun k hk => hall k (List.mem_range.1 hk)), Nat.zero_add]
    refine hQ listed w hsz (fun k => ?_) hinv hS
    by_cases hk : k < n
    · rw [hall k hk]; simp [hk]
    · rw [htl k (by omega)]; simp [hk]
  | succ c ih =>
    intro listed w hsz hinv hcl htl hle hS
    rw [show c + 1 + g = (c + g) + 1 by omega]
    have hsome : ∃ k, k < n ∧ listed.getD k false = false := by
      cases hx : (List.range n).filter fun k => !listed.getD k false with
      | nil => rw [hx] at hle; cases hle
      | cons x xs =>
        have hm : x ∈ (List.range n).filter fun k => !listed.getD k false := by rw [hx]; simp
        rw [List.mem_filter] at hm
        exact ⟨x, List.mem_range.1 hm.1, by simpa using hm.2⟩
    obtain ⟨k0, hk0, hl0⟩ := hsome
    refine ⟨fun hr => ?_, fun i hi => ?_⟩
    · obtain ⟨i, _, _, hm⟩ := hmin listed hsz k0 hk0 hl0
      rw [hr] at hm
      cases hm
    obtain ⟨h0, o, ho, hall⟩ := mem_ready.1 hi
    have hin : i < n := by
      apply Classical.byContradiction
      intro hno
      have := anc_listed hcl 5 i o ho hall k0 (planOkT_tail hok ho (by omega) hk0)
      rw [hl0] at this
      cases this
    have hlt : i < ops.size := by omega
    have h0' : listed.getD i false = false := by
      rw [Array.getD_eq_getD_getElem?] at h0 ⊢; rw [Array.getElem?_eq_getElem (by omega)] at h0 ⊢; exact h0
    cases hsk : skip i with
    | true => exact hH c listed w i o ho hin hsk hinv hsz h0' hcl hall htl hle hS
    | false =>
    -- whoever is on the other side of i than in the text is apart from it
    have hap : ∀ k p, ops[k]? = some p → k < n → k ≠ i → (k < i ∧ listed.getD k false = false ∨ i < k ∧ listed.getD k false = true) → p.apart ops o = true ∨ o.apart ops p = true := by
      intro k p hp hkn hki hk
      rcases hk with ⟨hk1, hk2⟩ | ⟨hk1, hk2⟩
      · exact .inl ((planOkT_spec hok ho hin).2 k p hk1 hp (fun e he hb heq => by
          have := hall e he hb
          rw [heq, hk2] at this
          cases this))
      · exact .inr ((planOkT_spec hok hp hkn).2 i o hk1 ho (fun e he hb heq => by
          have := hcl k p hp hk2 e he hb
          rw [heq, h0'] at this
          cases this))
    have hlook : ∀ k p, ops[k]? = some p → k < n → k ≠ i → (k < i ∧ listed.getD k false = false ∨ i < k ∧ listed.getD k false = true) → ∀ t, p.dst = some t → t ∉ o.looksAt ops := by
      intro k p hp hkn hki hk t ht
      rcases hap k p hp hkn hki hk with h | h
      · exact (Oper.apart_spec h).1 t ht
      · exact (Oper.apart_spec h).2.2 t ht
    -- the frame as the operation meets it, and as the text has it
    have hdoes : Does P ops S o (vs i) (puts ops vs (fun k => listed.getD k false) (List.range n) a) := by
      refine Does.of_looks (fun cs b => hs i o cs b ho) ?_ (hD i o hin hsk ho)
      intro t ht
      have hsplit : puts ops vs (fun _ => true) (List.range i) a = puts ops vs (fun k => decide (k < i)) (List.range n) a := by
        obtain ⟨d, hd⟩ : ∃ d, n = i + d := ⟨n - i, by omega⟩
        have : ∀ d, puts ops vs (fun _ => true) (List.range i) a = puts ops vs (fun k => decide (k < i)) (List.range (i + d)) a := by
         intro d
         induction d with
         | zero => exact puts_congr _ _ (fun k hk => by simp [List.mem_range.1 hk])
         | succ n ihn =>
          rw [ihn, ← Nat.add_assoc, List.range_succ]
          have happ : ∀ (l1 l2 : List Nat) (m : Nat → Bool) (b : Act), puts ops vs m (l1 ++ l2) b = puts ops vs m l2 (puts ops vs m l1 b) := by
            intro l1
            induction l1 with
            | nil => intros; rfl
            | cons x xs ihx => intro l2 m b; exact ihx l2 m _
          rw [happ]
          have : decide (i + n < i) = false := by simp
          simp [puts, this]
        rw [hd]; exact this d
      rw [hsplit]
      refine puts_get _ _ _ (fun k hk hdst => ?_) rfl rfl
      have hk := List.mem_range.1 hk
      obtain ⟨p, hp⟩ : ∃ p, ops[k]? = some p := ⟨ops[k]'(by omega), Array.getElem?_eq_getElem (by omega)⟩
      simp only [hp, Option.bind_some] at hdst
      by_cases hki : k = i
      · subst hki; simp [h0']
      · cases hl : listed.getD k false with
        | false =>
          by_cases hlt' : k < i
          · exact absurd ht (hlook k p hp hk hki (.inl ⟨hlt', hl⟩) t hdst)
          · simp [hlt']
        | true =>
          by_cases hlt' : k < i
          · simp [hlt']
          · exact absurd ht (hlook k p hp hk hki (.inr ⟨by omega, hl⟩) t hdst)
    refine hdoes.wpOp ho hS (fun w' hS' => ?_)
    have hm' : ∀ k, k ≠ i → (listed.setIfInBounds i true).getD k false = listed.getD k false := fun k hk => getD_set_ne false (Ne.symm hk)
    have hmi : (listed.setIfInBounds i true).getD i false = true := by
      have : i < listed.size := by omega
      simp [this]
    have heq := puts_more (ops := ops) (vs := vs) (m := fun k => listed.getD k false) (m' := fun k => (listed.setIfInBounds i true).getD k false) (i := i) (List.range n) a
      List.pairwise_lt_range (List.mem_range.2 hin) h0' hmi hm' (fun k hk hik hl t ht hkt => by
        have hk := List.mem_range.1 hk
        obtain ⟨p, hp⟩ : ∃ p, ops[k]? = some p := ⟨ops[k]'(by omega), Array.getElem?_eq_getElem (by omega)⟩
        simp only [hp, ho, Option.bind_some] at hkt ht
        rcases hap k p hp hk (by omega) (.inr ⟨hik, hl⟩) with h | h
        · exact (Oper.apart_spec h).2.1 t hkt ht
        · exact (Oper.apart_spec h).2.1 t ht hkt)
    rw [ho, Option.bind_some] at heq
    rw [← heq]
    refine ih _ w' (by simpa using hsz) (hI _ _ hsk hinv) ?_ (fun k hk => by rw [hm' k (by omega)]; exact htl k hk) ?_ hS'
    · intro j p hp hj e he hb
      by_cases hji : j = i
      · subst hji
        rw [ho] at hp; cases hp
        exact getD_set_true (hall e he hb)
      · rw [hm' j hji] at hj
        exact getD_set_true (hcl j p hp hj e he hb)
    · have hlen : ((List.range n).filter fun k => !(listed.setIfInBounds i true).getD k false).length + 1 = ((List.range n).filter fun k => !listed.getD k false).length := by
        refine filt_one (i := i) _ List.nodup_range (List.mem_range.2 hin) (fun k hk => ?_) (by simpa using h0') (by simpa using hmi)
        rw [hm' k hk]
      omega

theorem wpAny_planT {n g : Nat} (hok : planOkT md ops n = true) (hsel : Region.noSelect ops = true) (vs : Nat → Value) (a : Act)
    (hD : ∀ i o, i < n → ops[i]? = some o → Does P ops S o (vs i) (puts ops vs (fun _ => true) (List.range i) a))
    (hQ : ∀ (listed : Array Bool) (w' : World), listed.size = ops.size → (∀ k, listed.getD k false = decide (k < n)) → S w' → wpAny P md ops Q g listed (puts ops vs (fun _ => true) (List.range n) a) w')
    (c : Nat) (listed : Array Bool) (w : World) (hsz : listed.size = ops.size)
    (hcl : ∀ i o, ops[i]? = some o → listed.getD i false = true → ∀ e ∈ o.after, Region.binds md e = true → listed.getD e.on false = true)
    (htl : ∀ k, n ≤ k → listed.getD k false = false) (hle : ((List.range n).filter fun k => !listed.getD k false).length = c) (hS : S w) :
    wpAny P md ops Q (c + g) listed (puts ops vs (fun k => listed.getD k false) (List.range n) a) w :=
  wpAny_planG (fun _ => false) (fun _ => True) hok hsel vs a (fun i o h _ ho => hD i o h ho) (fun l w' h1 h2 _ h3 => hQ l w' h1 h2 h3) (fun _ _ _ _ => trivial) (fun _ _ _ _ _ _ _ h => by cases h) c listed w hsz trivial hcl htl hle hS

theorem Plan.take {K : Act → Prop} (n : Nat) : ∀ (l : List Oper) (m : Nat) (a : Act), (ops.toList.take n).drop m = l → m ≤ n → n ≤ ops.size → Plan P ops S K l a →
    ∃ vs : Nat → Value, (∀ i o, m ≤ i → i < n → ops[i]? = some o → Does P ops S o (vs i) (Proofs.YtcplegelppfdeaaDoor.puts ops vs (fun _ => true) ((List.range (i - m)).map (· + m)) a)) ∧
      K (Proofs.YtcplegelppfdeaaDoor.puts ops vs (fun _ => true) ((List.range (n - m)).map (· + m)) a)
  | [], m, a, hl, hmn, hns, h => by
    have hn : n ≤ m := by
      have := congrArg List.length hl
      simp at this
      omega
    refine ⟨fun _ => undef, fun i o hi hin ho => by omega, ?_⟩
    rw [Nat.sub_eq_zero_of_le hn]
    exact h
  | o :: r, m, a, hl, hmn, hns, h => by
    obtain ⟨v, hv, hr⟩ := h
    have hn : m < n := by
      have := congrArg List.length hl
      simp at this
      omega
    have hdrop : (ops.toList.take n).drop m = ops[m]'(by omega) :: (ops.toList.take n).drop (m + 1) := by
      rw [List.drop_eq_getElem_cons (by simp; omega)]
      simp
    rw [hl] at hdrop
    obtain ⟨e1, e2⟩ := List.cons.inj hdrop
    have hon : ops[m]? = some o := by rw [Array.getElem?_eq_getElem (by omega), e1]
    obtain ⟨vs, h1, h2⟩ := Plan.take n r (m + 1) (a.put o.dst v) e2.symm (by omega) hns hr
    let vs' : Nat → Value := fun k => if k = m then v else vs k
    have same : ∀ (j : Nat) (b : Act), Proofs.YtcplegelppfdeaaDoor.puts ops vs' (fun _ => true) ((List.range j).map (· + (m + 1))) b = Proofs.YtcplegelppfdeaaDoor.puts ops vs (fun _ => true) ((List.range j).map (· + (m + 1))) b := by
      intro j b
      refine puts_vals _ _ (fun k hk => ?_)
      obtain ⟨x, _, rfl⟩ := List.mem_map.1 hk
      exact if_neg (by omega)
    have first : ∀ j, m < j → Proofs.YtcplegelppfdeaaDoor.puts ops vs' (fun _ => true) ((List.range (j - m)).map (· + m)) a = Proofs.YtcplegelppfdeaaDoor.puts ops vs (fun _ => true) ((List.range (j - (m + 1))).map (· + (m + 1))) (a.put o.dst v) := by
      intro j hj
      have hr : (List.range (j - m)).map (· + m) = m :: (List.range (j - (m + 1))).map (· + (m + 1)) := by
        rw [show j - m = (j - (m + 1)) + 1 by omega, List.range_succ_eq_map, List.map_cons, List.map_map]
        congr 1
        · omega
        · apply List.map_congr_left
          intro x _
          show x + 1 + m = x + (m + 1)
          omega
      rw [hr]
      show Proofs.YtcplegelppfdeaaDoor.puts ops vs' (fun _ => true) _ (if true = true then a.put ((ops[m]?).bind (·.dst)) (vs' m) else a) = _
      rw [if_pos rfl, hon, show vs' m = v from if_pos rfl]
      exact same _ _
    refine ⟨vs', fun i o' hi hin ho => ?_, ?_⟩
    · by_cases him : i = m
      · subst him
        rw [hon] at ho; cases ho
        rw [Nat.sub_self, show vs' i = v from if_pos rfl]
        exact hv
      · rw [first i (by omega), show vs' i = vs i from if_neg him]
        exact h1 i o' (by omega) hin ho
    · rw [first n hn]
      exact h2

/-- The flags behind the first n. -/
def heads (size n : Nat) : Array Bool := ((List.range size).map fun k => decide (k < n)).toArray
theorem heads_of {listed : Array Bool} {n : Nat} (hn : n ≤ ops.size) (hsz : listed.size = ops.size) (h : ∀ k, listed.getD k false = decide (k < n)) : listed = heads ops.size n := by
  apply Array.ext
  · simp [heads, hsz]
  · intro i h1 h2
    have := h i
    rw [Array.getD_eq_getD_getElem?, Array.getElem?_eq_getElem h1] at this
    simp only [Option.getD_some] at this
    rw [this]
    simp [heads]

/-- THE REGION: its first n in whatever order; then what is left, one by one. -/
theorem wp_region_planT {id : Nat} {a : Act} {w : World} (n : Nat) (S : World → Prop) (hm : P.follows .mixedOrders = true) (hok : planOkT .any ops n = true) (hsel : Region.noSelect ops = true)
    (hseq : Region.seqB .any ops (ops.size - n) n (heads ops.size n) = true) (hS : S w.drew)
    (h : Plan P ops S (fun a' => ∀ w', S w' → wpList P ops Q (ops.toList.drop n) a' w') (ops.toList.take n) a) : (Code.region id ops true).wp P Q a w := by
  have hns := planOkT_le hok
  obtain ⟨vs, h1, h2⟩ := Plan.take n (ops.toList.take n) 0 a rfl (Nat.zero_le _) hns h
  refine wp_region_any hm ?_
  have hz : ∀ k, (Array.replicate ops.size false).getD k false = false := fun k => by
    rw [Array.getD_eq_getD_getElem?, Array.getElem?_replicate]; split <;> rfl
  rw [Nat.sub_zero, map_zero] at h2
  have hlen : (ops.toList.drop n).length = ops.size - n := by simp
  have h3 := wpAny_planT (Q := Q) (n := n) (g := ops.size - n) hok hsel vs a (fun i o hin ho => by have := h1 i o (Nat.zero_le _) hin ho; rwa [Nat.sub_zero, map_zero] at this)
    (fun listed w' hsz hl hS' => by
      rw [heads_of hns hsz hl, ← hlen]
      refine wpAny_of_seq (ops.toList.drop n) n _ _ _ (fun j => by simp) (by rw [hlen]; exact hseq) (h2 w' hS'))
    n (Array.replicate ops.size false) w.drew (by simp) (fun i o _ hl => by rw [hz] at hl; cases hl) (fun k _ => hz k) (by
      rw [List.filter_eq_self.2 (fun k _ => by rw [hz]; rfl)]
      simp) hS
  have h4 : Proofs.YtcplegelppfdeaaDoor.puts ops vs (fun k => (Array.replicate ops.size false).getD k false) (List.range n) a = a := by
    have : ∀ (ks : List Nat), Proofs.YtcplegelppfdeaaDoor.puts ops vs (fun k => (Array.replicate ops.size false).getD k false) ks a = a := by
      intro ks
      induction ks with
      | nil => rfl
      | cons x xs ih =>
        unfold Proofs.YtcplegelppfdeaaDoor.puts
        rw [hz]
        exact ih
    exact this _
  rw [h4, show n + (ops.size - n) = ops.size by omega] at h3
  exact h3
end
end Go.Proofs.YtcplegelppfdeaaDoor
