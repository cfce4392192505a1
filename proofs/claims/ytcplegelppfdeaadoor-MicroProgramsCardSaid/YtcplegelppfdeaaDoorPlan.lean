/-
  A region that draws its order, of operations each of which yields one value in every world that meets S, and keeps S: whatever the order, all values are there in the end. (Calls of functions that only make memory among them.)
-/
import Derived.OrdersHeld
import Derived.Deep.RegionHeld
set_option linter.unusedSimpArgs false
set_option linter.unusedVariables false
namespace Go.Proofs.YtcplegelppfdeaaDoor
open Go

section
variable {P : Program} {ops : Array Oper} {Q : Exit → Act → World → Prop} {md : Region.Mode} {S : World → Prop}

/-- What an operation's run comes to: the value v, and S still holds. -/
def One (P : Program) (S : World → Prop) (v : Value) : Result Next → Prop
  | .ok (.value u) w' => u = v ∧ S w'
  | .ok (.enter f args) w' => Calls P f args w' fun e w'' => e = .returned v ∧ S w''
  | _ => False

def Does (P : Program) (ops : Array Oper) (S : World → Prop) (o : Oper) (v : Value) (a : Act) : Prop :=
  (Region.wanted o (yielded ops a.tmps) = true ∧ ∀ w, S w → One P S v ((execOp a.eval o).run P w)) ∨
  (Region.wanted o (yielded ops a.tmps) = false ∧ v = undef)

theorem Does.wpOp {i : Nat} {o : Oper} {v : Value} {a : Act} (hi : ops[i]? = some o) (hd : Does P ops S o v a)
    {K : Act → World → Prop} {w : World} (hS : S w) (h : ∀ w', S w' → K (a.put o.dst v) w') : Go.wpOp P ops Q i K a w := by
  unfold Go.wpOp
  simp only [hi]
  rcases hd with ⟨hw, hv⟩ | ⟨hw, rfl⟩
  · simp only [hw, if_true]
    refine .inl ?_
    have h1 := hv w hS
    unfold Oper.wp
    generalize (execOp a.eval o).run P w = r at *
    cases r with
    | ok n w' =>
      cases n <;> simp only [One] at h1
      case value u =>
        obtain ⟨rfl, h2⟩ := h1
        exact h w' h2
      case enter f args =>
        refine Calls.mono h1 fun e w'' he => ?_
        obtain ⟨rfl, h2⟩ := he
        exact h w'' h2
    | halt x w' => simp only [One] at h1
  · simp only [hw, Bool.false_eq_true, if_false]
    exact h w hS

/-- Two frames that are the same where an operation looks. -/
theorem Does.of_looks {o : Oper} {v : Value} {a a' : Act} (hs : ∀ cs b, o.op ≠ .select cs b) (h : ∀ t ∈ o.looksAt ops, a'.tmps[t]? = a.tmps[t]?) (hd : Does P ops S o v a) : Does P ops S o v a' := by
  have he : execOp a'.eval o = execOp a.eval o := execOp_congr o hs fun x hx => by
    cases x with
    | tmp t =>
      have := h t (List.mem_append_left _ (List.mem_filterMap.2 ⟨.tmp t, by simpa using hx, rfl⟩))
      simp only [Act.eval, Array.getD_eq_getD_getElem?, this]
    | _ => rfl
  have hw : Region.wanted o (yielded ops a'.tmps) = Region.wanted o (yielded ops a.tmps) := by
    unfold Region.wanted
    cases hg : o.guard with
    | none => rfl
    | some gw =>
      obtain ⟨g, want⟩ := gw
      have hy : yielded ops a'.tmps g = yielded ops a.tmps g := by
        unfold yielded
        cases ht : (ops[g]?).bind (·.dst) with
        | none => rfl
        | some t =>
          have := h t (List.mem_append_right _ (by simp [hg, ht]))
          simp only [Option.bind_some, this]
      simp only [hy]
  unfold Does at *
  rw [he, hw]
  exact hd

/-- Of the operations ks, those that m names have put their values. -/
def puts (ops : Array Oper) (vs : Nat → Value) (m : Nat → Bool) : List Nat → Act → Act
  | [], a => a
  | k :: ks, a => puts ops vs m ks (if m k then a.put ((ops[k]?).bind (·.dst)) (vs k) else a)

theorem put_size (a : Act) (d : Option Tmp) (v : Value) : (a.put d v).tmps.size = a.tmps.size := by
  cases d <;> simp [Act.put]
theorem puts_get {vs : Nat → Value} {m1 m2 : Nat → Bool} {t : Nat} : ∀ (ks : List Nat) (a1 a2 : Act), (∀ k ∈ ks, (ops[k]?).bind (·.dst) = some t → m1 k = m2 k) →
    a1.tmps[t]? = a2.tmps[t]? → a1.tmps.size = a2.tmps.size → (puts ops vs m1 ks a1).tmps[t]? = (puts ops vs m2 ks a2).tmps[t]?
  | [], _, _, _, h, _ => h
  | k :: ks, a1, a2, hm, h, hs => by
    refine puts_get ks _ _ (fun j hj => hm j (List.mem_cons_of_mem _ hj)) ?_ ?_
    · by_cases hd : (ops[k]?).bind (·.dst) = some t
      · have := hm k (by simp) hd
        rw [this, hd]
        cases m2 k
        · simpa using h
        · simp only [if_true, Act.put]
          by_cases hlt : t < a1.tmps.size
          · rw [Array.getElem?_setIfInBounds_self_of_lt hlt, Array.getElem?_setIfInBounds_self_of_lt (by omega)]
          · rw [Array.getElem?_eq_none (by simpa using hlt), Array.getElem?_eq_none (by simp; omega)]
      · have far : ∀ (b : Act) (v : Value), (b.put ((ops[k]?).bind (·.dst)) v).tmps[t]? = b.tmps[t]? := fun b v => by
          cases hk : (ops[k]?).bind (·.dst) with
          | none => rfl
          | some d =>
            have : d ≠ t := fun e => hd (by rw [hk, e])
            simp [Act.put, Array.getElem?_setIfInBounds_ne this]
        cases m1 k <;> cases m2 k <;> simp [far, h]
    · cases m1 k <;> cases m2 k <;> simp [put_size, hs]

theorem puts_congr {vs : Nat → Value} {m1 m2 : Nat → Bool} : ∀ (ks : List Nat) (a : Act), (∀ k ∈ ks, m1 k = m2 k) → puts ops vs m1 ks a = puts ops vs m2 ks a
  | [], _, _ => rfl
  | k :: ks, a, h => by
    unfold puts
    rw [h k (by simp)]
    exact puts_congr ks _ (fun j hj => h j (List.mem_cons_of_mem _ hj))

theorem puts_put {vs : Nat → Value} {m : Nat → Bool} {d : Option Tmp} {v : Value} : ∀ (ks : List Nat) (a : Act), (∀ k ∈ ks, m k = true → ∀ t, d = some t → (ops[k]?).bind (·.dst) ≠ some t) →
    puts ops vs m ks (a.put d v) = (puts ops vs m ks a).put d v
  | [], _, _ => rfl
  | k :: ks, a, h => by
    unfold puts
    cases hm : m k
    · simpa using puts_put ks a (fun j hj => h j (List.mem_cons_of_mem _ hj))
    · simp only [if_true]
      rw [Act.put_comm a v (vs k) (h k (by simp) hm)]
      exact puts_put ks _ (fun j hj => h j (List.mem_cons_of_mem _ hj))

/-- One more has put its value. -/
theorem puts_more {vs : Nat → Value} {m m' : Nat → Bool} {i : Nat} : ∀ (ks : List Nat) (a : Act), ks.Pairwise (· < ·) → i ∈ ks → m i = false → m' i = true → (∀ k, k ≠ i → m' k = m k) →
    (∀ k ∈ ks, i < k → m k = true → ∀ t, (ops[i]?).bind (·.dst) = some t → (ops[k]?).bind (·.dst) ≠ some t) →
    puts ops vs m' ks a = (puts ops vs m ks a).put ((ops[i]?).bind (·.dst)) (vs i)
  | [], _, _, h, _, _, _, _ => by cases h
  | k :: ks, a, hn, hi, h0, h1, he, hd => by
    obtain ⟨hk, hn⟩ := List.pairwise_cons.1 hn
    unfold puts
    by_cases hki : k = i
    · subst hki
      simp only [h0, h1, if_true, Bool.false_eq_true, if_false]
      rw [puts_congr (m1 := m') (m2 := m) ks _ (fun j hj => he j (Nat.ne_of_gt (hk j hj)))]
      exact puts_put ks a (fun j hj hm t ht => hd j (List.mem_cons_of_mem _ hj) (hk j hj) hm t ht)
    · rw [he k hki]
      have hi' : i ∈ ks := by
        rcases List.mem_cons.1 hi with e | e
        · exact absurd e.symm hki
        · exact e
      exact puts_more ks _ hn hi' h0 h1 he (fun j hj => hd j (List.mem_cons_of_mem _ hj))

theorem puts_vals {vs vs' : Nat → Value} {m : Nat → Bool} : ∀ (ks : List Nat) (a : Act), (∀ k ∈ ks, vs' k = vs k) → puts ops vs' m ks a = puts ops vs m ks a
  | [], _, _ => rfl
  | k :: ks, a, h => by
    unfold puts
    rw [h k (by simp)]
    exact puts_vals ks _ (fun j hj => h j (List.mem_cons_of_mem _ hj))

theorem filt_le {p q : Nat → Bool} : ∀ l : List Nat, (∀ k, q k = true → p k = true) → (l.filter q).length ≤ (l.filter p).length
  | [], _ => Nat.le_refl _
  | x :: xs, h => by
    have ih := filt_le xs h
    rw [List.filter_cons, List.filter_cons]
    cases hq : q x
    · cases hp : p x <;> simp <;> omega
    · simp [h x hq]; omega
theorem filt_lt {p q : Nat → Bool} {i : Nat} : ∀ l : List Nat, i ∈ l → (∀ k, q k = true → p k = true) → p i = true → q i = false → (l.filter q).length < (l.filter p).length
  | [], h, _, _, _ => by cases h
  | x :: xs, h, hqp, hp, hq => by
    have ihle := filt_le xs hqp
    rw [List.filter_cons, List.filter_cons]
    rcases List.mem_cons.1 h with e | e
    · subst e
      simp [hp, hq]; omega
    · have ih := filt_lt xs e hqp hp hq
      cases hqx : q x
      · cases hpx : p x <;> simp <;> omega
      · simp [hqp x hqx]; omega

/-- Each operation waits for earlier ones alone; of any two, the later one waits for the earlier one, or they are apart. -/
def planOk (md : Region.Mode) (ops : Array Oper) : Bool :=
  (List.range ops.size).all fun i => match ops[i]? with
    | none => true
    | some o => (o.after.all fun e => !Region.binds md e || decide (e.on < i)) &&
      (List.range i).all fun j => (o.after.any fun e => Region.binds md e && e.on == j) || (match ops[j]? with | some p => p.apart ops o | none => true)

theorem planOk_spec (h : planOk md ops = true) {i : Nat} {o : Oper} (ho : ops[i]? = some o) :
    (∀ e ∈ o.after, Region.binds md e = true → e.on < i) ∧ ∀ j p, j < i → ops[j]? = some p → (∀ e ∈ o.after, Region.binds md e = true → e.on ≠ j) → p.apart ops o = true := by
  have hlt : i < ops.size := (Array.getElem?_eq_some_iff.1 ho).1
  unfold planOk at h
  have h1 := List.all_eq_true.1 h i (List.mem_range.2 hlt)
  simp only [ho, Bool.and_eq_true] at h1
  obtain ⟨h1, h2⟩ := h1
  refine ⟨fun e he hb => ?_, fun j p hj hp hno => ?_⟩
  · have := Array.all_eq_true_iff_forall_mem.1 h1 e he
    simpa [hb] using this
  · have := List.all_eq_true.1 h2 j (List.mem_range.2 hj)
    simp only [hp, Bool.or_eq_true] at this
    rcases this with this | this
    · obtain ⟨n, hn, hb⟩ := Array.any_eq_true.1 this
      simp only [Bool.and_eq_true, beq_iff_eq] at hb
      exact absurd hb.2 (hno _ (Array.getElem_mem hn) hb.1)
    · exact this

theorem wpAny_plan (hok : planOk md ops = true) (hsel : Region.noSelect ops = true) (vs : Nat → Value) (a : Act)
    (hD : ∀ i o, ops[i]? = some o → Does P ops S o (vs i) (puts ops vs (fun _ => true) (List.range i) a))
    (hQ : ∀ w', S w' → Q .normal (puts ops vs (fun _ => true) (List.range ops.size) a) w') :
    ∀ (fuel : Nat) (listed : Array Bool) (w : World), listed.size = ops.size →
      (∀ i o, ops[i]? = some o → listed.getD i false = true → ∀ e ∈ o.after, Region.binds md e = true → listed.getD e.on false = true) →
      ((List.range ops.size).filter fun k => !listed.getD k false).length ≤ fuel → S w →
      wpAny P md ops Q fuel listed (puts ops vs (fun k => listed.getD k false) (List.range ops.size) a) w := by
  have hs := Region.noSelect_spec hsel
  have hend : ∀ (listed : Array Bool), listed.size = ops.size → Region.ready md ops listed = [] → ∀ k, k < ops.size → listed.getD k false = true := by
    intro listed hsz hr k
    induction k using Nat.strongRecOn with
    | _ k ih =>
      intro hk
      cases hl : listed.getD k false with
      | true => rfl
      | false =>
        have hmem : k ∈ Region.ready md ops listed := by
          rw [mem_ready]
          refine ⟨by rw [Array.getD_eq_getD_getElem?] at hl ⊢; rw [Array.getElem?_eq_getElem (by omega)] at hl ⊢; exact hl, ops[k], Array.getElem?_eq_getElem hk, fun e he hb => ?_⟩
          have := (planOk_spec hok (Array.getElem?_eq_getElem hk)).1 e he hb
          exact ih e.on this (by omega)
        rw [hr] at hmem
        cases hmem
  have hfin : ∀ (listed : Array Bool) (w : World), listed.size = ops.size → S w → Region.ready md ops listed = [] → Q .normal (puts ops vs (fun k => listed.getD k false) (List.range ops.size) a) w := by
    intro listed w hsz hS hr
    rw [puts_congr (m2 := fun _ => true) (List.range ops.size) a (fun k hk => hend listed hsz hr k (List.mem_range.1 hk))]
    exact hQ w hS
  intro fuel
  induction fuel with
  | zero =>
    intro listed w hsz hcl hle hS
    have hr : Region.ready md ops listed = [] := by
      cases hx : Region.ready md ops listed with
      | nil => rfl
      | cons x xs =>
        have hm : x ∈ Region.ready md ops listed := by rw [hx]; simp
        obtain ⟨h0, o, ho, _⟩ := mem_ready.1 hm
        have hlt : x < ops.size := (Array.getElem?_eq_some_iff.1 ho).1
        have hmf : x ∈ (List.range ops.size).filter fun k => !listed.getD k false := by
          rw [List.mem_filter]
          refine ⟨List.mem_range.2 hlt, ?_⟩
          rw [Array.getD_eq_getD_getElem?] at h0 ⊢; rw [Array.getElem?_eq_getElem (by omega)] at h0 ⊢
          simpa using h0
        rw [List.length_eq_zero_iff.1 (Nat.le_zero.1 hle)] at hmf
        cases hmf
    exact ⟨hr, hfin listed w hsz hS hr⟩
  | succ fuel ih =>
    intro listed w hsz hcl hle hS
    refine ⟨hfin listed w hsz hS, fun i hi => ?_⟩
    obtain ⟨h0, o, ho, hall⟩ := mem_ready.1 hi
    have hlt : i < ops.size := (Array.getElem?_eq_some_iff.1 ho).1
    have h0' : listed.getD i false = false := by
      rw [Array.getD_eq_getD_getElem?] at h0 ⊢; rw [Array.getElem?_eq_getElem (by omega)] at h0 ⊢; exact h0
    -- whoever is on the other side of i than in the text is apart from it
    have hap : ∀ k p, ops[k]? = some p → k ≠ i → (k < i ∧ listed.getD k false = false ∨ i < k ∧ listed.getD k false = true) → p.apart ops o = true ∨ o.apart ops p = true := by
      intro k p hp hki hk
      rcases hk with ⟨hk1, hk2⟩ | ⟨hk1, hk2⟩
      · exact .inl ((planOk_spec hok ho).2 k p hk1 hp (fun e he hb heq => by
          have := hall e he hb
          rw [heq, hk2] at this
          cases this))
      · exact .inr ((planOk_spec hok hp).2 i o hk1 ho (fun e he hb heq => by
          have := hcl k p hp hk2 e he hb
          rw [heq, h0'] at this
          cases this))
    have hlook : ∀ k p, ops[k]? = some p → k ≠ i → (k < i ∧ listed.getD k false = false ∨ i < k ∧ listed.getD k false = true) → ∀ t, p.dst = some t → t ∉ o.looksAt ops := by
      intro k p hp hki hk t ht
      rcases hap k p hp hki hk with h | h
      · exact (Oper.apart_spec h).1 t ht
      · exact (Oper.apart_spec h).2.2 t ht
    -- the frame as the operation meets it, and as the text has it
    have hdoes : Does P ops S o (vs i) (puts ops vs (fun k => listed.getD k false) (List.range ops.size) a) := by
      refine Does.of_looks (fun cs b => hs i o cs b ho) ?_ (hD i o ho)
      intro t ht
      have hsplit : puts ops vs (fun _ => true) (List.range i) a = puts ops vs (fun k => decide (k < i)) (List.range ops.size) a := by
        obtain ⟨n, hn⟩ : ∃ n, ops.size = i + n := ⟨ops.size - i, by omega⟩
        rw [hn]
        clear hn
        induction n with
        | zero => exact puts_congr _ _ (fun k hk => by simp [List.mem_range.1 hk])
        | succ n ihn =>
          rw [ihn, ← Nat.add_assoc, List.range_succ]
          have happ : ∀ (l1 l2 : List Nat) (m : Nat → Bool) (b : Act), puts ops vs m (l1 ++ l2) b = puts ops vs m l2 (puts ops vs m l1 b) := by
            intro l1
            induction l1 with
            | nil => intros; rfl
            | cons x xs ihx => intro l2 m b; exact ihx l2 m _
          rw [happ]
          have : decide (i + n < i) = false := by simp
          simp [puts, this]
      rw [hsplit]
      refine puts_get _ _ _ (fun k hk hdst => ?_) rfl rfl
      have hk := List.mem_range.1 hk
      obtain ⟨p, hp⟩ : ∃ p, ops[k]? = some p := ⟨ops[k], Array.getElem?_eq_getElem hk⟩
      simp only [hp, Option.bind_some] at hdst
      by_cases hki : k = i
      · subst hki; simp [h0']
      · cases hl : listed.getD k false with
        | false =>
          by_cases hlt' : k < i
          · exact absurd ht (hlook k p hp hki (.inl ⟨hlt', hl⟩) t hdst)
          · simp [hlt']
        | true =>
          by_cases hlt' : k < i
          · simp [hlt']
          · exact absurd ht (hlook k p hp hki (.inr ⟨by omega, hl⟩) t hdst)
    refine hdoes.wpOp ho hS (fun w' hS' => ?_)
    have hm' : ∀ k, k ≠ i → (listed.setIfInBounds i true).getD k false = listed.getD k false := fun k hk => getD_set_ne false (Ne.symm hk)
    have hmi : (listed.setIfInBounds i true).getD i false = true := by
      have : i < listed.size := by omega
      simp [this]
    have heq := puts_more (ops := ops) (vs := vs) (m := fun k => listed.getD k false) (m' := fun k => (listed.setIfInBounds i true).getD k false) (i := i) (List.range ops.size) a
      List.pairwise_lt_range (List.mem_range.2 hlt) h0' hmi hm' (fun k hk hik hl t ht hkt => by
        have hk := List.mem_range.1 hk
        obtain ⟨p, hp⟩ : ∃ p, ops[k]? = some p := ⟨ops[k], Array.getElem?_eq_getElem hk⟩
        simp only [hp, ho, Option.bind_some] at hkt ht
        rcases hap k p hp (by omega) (.inr ⟨hik, hl⟩) with h | h
        · exact (Oper.apart_spec h).2.1 t hkt ht
        · exact (Oper.apart_spec h).2.1 t ht hkt)
    rw [ho, Option.bind_some] at heq
    rw [← heq]
    refine ih _ w' (by simpa using hsz) ?_ ?_ hS'
    · intro j p hp hj e he hb
      by_cases hji : j = i
      · subst hji
        rw [ho] at hp; cases hp
        exact getD_set_true (hall e he hb)
      · rw [hm' j hji] at hj
        exact getD_set_true (hcl j p hp hj e he hb)
    · have hlen : ((List.range ops.size).filter fun k => !(listed.setIfInBounds i true).getD k false).length < ((List.range ops.size).filter fun k => !listed.getD k false).length := by
        refine filt_lt (i := i) _ (List.mem_range.2 hlt) (fun k hk => ?_) (by simpa using h0') (by simpa using hmi)
        by_cases hki : k = i
        · subst hki; simpa using h0'
        · rw [hm' k hki] at hk; exact hk
      omega

/-- THE REGION: each operation, in the text's order, yields its value. -/
def Plan (P : Program) (ops : Array Oper) (S : World → Prop) (K : Act → Prop) : List Oper → Act → Prop
  | [], a => K a
  | o :: r, a => ∃ v, Does P ops S o v a ∧ Plan P ops S K r (a.put o.dst v)

theorem Plan.puts {K : Act → Prop} : ∀ (l : List Oper) (n : Nat) (a : Act), ops.toList.drop n = l → Plan P ops S K l a →
    ∃ vs : Nat → Value, (∀ i o, n ≤ i → ops[i]? = some o → Does P ops S o (vs i) (Proofs.YtcplegelppfdeaaDoor.puts ops vs (fun _ => true) ((List.range (i - n)).map (· + n)) a)) ∧
      K (Proofs.YtcplegelppfdeaaDoor.puts ops vs (fun _ => true) ((List.range (ops.size - n)).map (· + n)) a)
  | [], n, a, hl, h => by
    have hn : ops.size ≤ n := by
      have := congrArg List.length hl
      simp at this
      omega
    refine ⟨fun _ => undef, fun i o hi ho => ?_, ?_⟩
    · have := (Array.getElem?_eq_some_iff.1 ho).1
      omega
    · rw [Nat.sub_eq_zero_of_le hn]
      exact h
  | o :: r, n, a, hl, h => by
    obtain ⟨v, hv, hr⟩ := h
    have hn : n < ops.size := by
      have := congrArg List.length hl
      simp at this
      omega
    have hdrop : ops.toList.drop n = ops[n] :: ops.toList.drop (n + 1) := by
      rw [List.drop_eq_getElem_cons (by simpa using hn)]
      simp
    rw [hl] at hdrop
    obtain ⟨e1, e2⟩ := List.cons.inj hdrop
    have hon : ops[n]? = some o := by rw [Array.getElem?_eq_getElem hn, e1]
    obtain ⟨vs, h1, h2⟩ := Plan.puts r (n + 1) (a.put o.dst v) e2.symm hr
    let vs' : Nat → Value := fun k => if k = n then v else vs k
    have same : ∀ (m : Nat) (b : Act), Proofs.YtcplegelppfdeaaDoor.puts ops vs' (fun _ => true) ((List.range m).map (· + (n + 1))) b = Proofs.YtcplegelppfdeaaDoor.puts ops vs (fun _ => true) ((List.range m).map (· + (n + 1))) b := by
      intro m b
      refine puts_vals _ _ (fun k hk => ?_)
      obtain ⟨j, _, rfl⟩ := List.mem_map.1 hk
      exact if_neg (by omega)
    have first : ∀ m, n < m → Proofs.YtcplegelppfdeaaDoor.puts ops vs' (fun _ => true) ((List.range (m - n)).map (· + n)) a = Proofs.YtcplegelppfdeaaDoor.puts ops vs (fun _ => true) ((List.range (m - (n + 1))).map (· + (n + 1))) (a.put o.dst v) := by
      intro m hm
      have hr : (List.range (m - n)).map (· + n) = n :: (List.range (m - (n + 1))).map (· + (n + 1)) := by
        rw [show m - n = (m - (n + 1)) + 1 by omega, List.range_succ_eq_map, List.map_cons, List.map_map]
        congr 1
        · omega
        · apply List.map_congr_left
          intro x _
          show x + 1 + n = x + (n + 1)
          omega
      rw [hr]
      show Proofs.YtcplegelppfdeaaDoor.puts ops vs' (fun _ => true) _ (if true = true then a.put ((ops[n]?).bind (·.dst)) (vs' n) else a) = _
      rw [if_pos rfl, hon, show vs' n = v from if_pos rfl]
      exact same _ _
    refine ⟨vs', fun i o' hi ho => ?_, ?_⟩
    · by_cases hin : i = n
      · subst hin
        rw [hon] at ho; cases ho
        rw [Nat.sub_self, show vs' i = v from if_pos rfl]
        exact hv
      · rw [first i (by omega), show vs' i = vs i from if_neg hin]
        exact h1 i o' (by omega) ho
    · rw [first ops.size hn]
      exact h2

theorem map_zero (n : Nat) : (List.range n).map (· + 0) = List.range n := by simp

theorem wp_region_plan {id : Nat} {a : Act} {w : World} (S : World → Prop) (hm : P.follows .mixedOrders = true) (hok : planOk .any ops = true) (hsel : Region.noSelect ops = true) (hS : S w.drew)
    (h : Plan P ops S (fun a' => ∀ w', S w' → Q .normal a' w') ops.toList a) : (Code.region id ops true).wp P Q a w := by
  obtain ⟨vs, h1, h2⟩ := Plan.puts ops.toList 0 a rfl h
  refine wp_region_any hm ?_
  have hz : ∀ k, (Array.replicate ops.size false).getD k false = false := fun k => by
    rw [Array.getD_eq_getD_getElem?, Array.getElem?_replicate]; split <;> rfl
  have h3 := wpAny_plan (Q := Q) hok hsel vs a (fun i o ho => by have := h1 i o (Nat.zero_le _) ho; rwa [Nat.sub_zero, map_zero] at this) (by rwa [Nat.sub_zero, map_zero] at h2)
    ops.size (Array.replicate ops.size false) w.drew (by simp) (fun i o _ hl => by rw [hz] at hl; cases hl) (by
      refine Nat.le_trans (List.length_filter_le _ _) ?_
      simp) hS
  have h4 : Proofs.YtcplegelppfdeaaDoor.puts ops vs (fun k => (Array.replicate ops.size false).getD k false) (List.range ops.size) a = a := by
    have : ∀ (ks : List Nat), Proofs.YtcplegelppfdeaaDoor.puts ops vs (fun k => (Array.replicate ops.size false).getD k false) ks a = a := by
      intro ks
      induction ks with
      | nil => rfl
      | cons x xs ih =>
        unfold Proofs.YtcplegelppfdeaaDoor.puts
        rw [hz]
        exact ih
    exact this _
  rw [h4] at h3
  exact h3

theorem Plan.done {K : Act → Prop} {a : Act} (h : K a) : Plan P ops S K [] a := h
/-- It is not wanted. -/
theorem Plan.no {K : Act → Prop} {o : Oper} {r : List Oper} {a : Act} (hw : Region.wanted o (yielded ops a.tmps) = false) (h : Plan P ops S K r (a.put o.dst undef)) : Plan P ops S K (o :: r) a :=
  ⟨undef, .inr ⟨hw, rfl⟩, h⟩
/-- It yields v. -/
theorem Plan.val {K : Act → Prop} {o : Oper} {r : List Oper} {a : Act} {v : Value} (hw : Region.wanted o (yielded ops a.tmps) = true) (hv : ∀ w, S w → (execOp a.eval o).run P w = .ok (.value v) w)
    (h : Plan P ops S K r (a.put o.dst v)) : Plan P ops S K (o :: r) a :=
  ⟨v, .inl ⟨hw, fun w hS => by rw [hv w hS]; exact ⟨rfl, hS⟩⟩, h⟩
/-- It is a call that hands back v, behind which S still holds. -/
theorem Plan.call {K : Act → Prop} {o : Oper} {r : List Oper} {a : Act} {v : Value} {f : FuncId} {args : Array Value} (hw : Region.wanted o (yielded ops a.tmps) = true)
    (hv : ∀ w, S w → (execOp a.eval o).run P w = .ok (.enter f args) w) (hc : ∀ w, S w → Calls P f args w fun e w' => e = .returned v ∧ S w')
    (h : Plan P ops S K r (a.put o.dst v)) : Plan P ops S K (o :: r) a :=
  ⟨v, .inl ⟨hw, fun w hS => by rw [hv w hS]; exact hc w hS⟩, h⟩

end
end Go.Proofs.YtcplegelppfdeaaDoor
