/-
  A region that draws its order, of operations each of which yields one value in every world that meets S, and keeps S: whatever the order, all values are there in the end. (Calls of functions that only make memory among them.)
  A region that draws its order, whose last operations wait for all others: the others by Plan, the last ones in their order.
  What a call leaves that only makes memory: facts on cells, sizes and the frame, carried over it.
  A region that draws its order, among whose operations one makes a new block whenever it comes: where the block lies hangs on the order, and is a name.
  A region that draws its order, of operations each of which yields some value of a kind in every world that meets S, makes memory, and turns none that was there: whatever the order, in the end each value is of its kind, and what each made lies apart from what the others made.
-/
import Derived.OrdersHeld
import Derived.Deep.RegionHeld
import Derived.StillTail
import Derived.Below
import Derived.Test.YtkabpnchfhkhgaaLawKit
set_option linter.unusedSimpArgs false
set_option linter.unusedVariables false
namespace Go.Proofs.Ytkabpnchfhkhgaa
open Go

section
variable {P : Program} {ops : Array Oper} {Q : Exit → Act → World → Prop} {md : Region.Mode} {S : World → Prop}

/-- What an operation's run comes to: the value v, and S still holds. -/
def One (P : Program) (S : World → Prop) (v : Value) : Result Next → Prop
  | .ok (.value u) w' => u = v ∧ S w'
  | .ok (.enter f args) w' => Calls P f args w' fun e w'' => e = .returned v ∧ S w''
  | _ => False

def Does (P : Program) (ops : Array Oper) (S : World → Prop) (o : Oper) (v : Value) (a : Act) : Prop :=
  (Region.wanted o (yielded ops a.tmps) = true ∧ ∀ w, S w → One P S v ((execOp a.eval o).run P w)) ∨
  (Region.wanted o (yielded ops a.tmps) = false ∧ v = undef)

theorem Does.wpOp {i : Nat} {o : Oper} {v : Value} {a : Act} (hi : ops[i]? = some o) (hd : Does P ops S o v a)
    {K : Act → World → Prop} {w : World} (hS : S w) (h : ∀ w', S w' → K (a.put o.dst v) w') : Go.wpOp P ops Q i K a w := by
  unfold Go.wpOp
  simp only [hi]
  rcases hd with ⟨hw, hv⟩ | ⟨hw, rfl⟩
  · simp only [hw, if_true]
    refine .inl ?_
    have h1 := hv w hS
    unfold Oper.wp
    generalize (execOp a.eval o).run P w = r at *
    cases r with
    | ok n w' =>
      cases n <;> simp only [One] at h1
      case value u =>
        obtain ⟨rfl, h2⟩ := h1
        exact h w' h2
      case enter f args =>
        refine Calls.mono h1 fun e w'' he => ?_
        obtain ⟨rfl, h2⟩ := he
        exact h w'' h2
    | halt x w' => simp only [One] at h1
  · simp only [hw, Bool.false_eq_true, if_false]
    exact h w hS

/-- Two frames that are the same where an operation looks. -/
theorem Does.of_looks {o : Oper} {v : Value} {a a' : Act} (hs : ∀ cs b, o.op ≠ .select cs b) (h : ∀ t ∈ o.looksAt ops, a'.tmps[t]? = a.tmps[t]?) (hd : Does P ops S o v a) : Does P ops S o v a' := by
  have he : execOp a'.eval o = execOp a.eval o := execOp_congr o hs fun x hx => by
    cases x with
    | tmp t =>
      have := h t (List.mem_append_left _ (List.mem_filterMap.2 ⟨.tmp t, by simpa using hx, rfl⟩))
      simp only [Act.eval, Array.getD_eq_getD_getElem?, this]
    | _ => rfl
  have hw : Region.wanted o (yielded ops a'.tmps) = Region.wanted o (yielded ops a.tmps) := by
    unfold Region.wanted
    cases hg : o.guard with
    | none => rfl
    | some gw =>
      obtain ⟨g, want⟩ := gw
      have hy : yielded ops a'.tmps g = yielded ops a.tmps g := by
        unfold yielded
        cases ht : (ops[g]?).bind (·.dst) with
        | none => rfl
        | some t =>
          have := h t (List.mem_append_right _ (by simp [hg, ht]))
          simp only [Option.bind_some, this]
      simp only [hy]
  unfold Does at *
  rw [he, hw]
  exact hd

/-- Of the operations ks, those that m names have put their values. -/
def puts (ops : Array Oper) (vs : Nat → Value) (m : Nat → Bool) : List Nat → Act → Act
  | [], a => a
  | k :: ks, a => puts ops vs m ks (if m k then a.put ((ops[k]?).bind (·.dst)) (vs k) else a)

theorem put_size (a : Act) (d : Option Tmp) (v : Value) : (a.put d v).tmps.size = a.tmps.size := by
  cases d <;> simp [Act.put]
theorem puts_get {vs : Nat → Value} {m1 m2 : Nat → Bool} {t : Nat} : ∀ (ks : List Nat) (a1 a2 : Act), (∀ k ∈ ks, (ops[k]?).bind (·.dst) = some t → m1 k = m2 k) →
    a1.tmps[t]? = a2.tmps[t]? → a1.tmps.size = a2.tmps.size → (puts ops vs m1 ks a1).tmps[t]? = (puts ops vs m2 ks a2).tmps[t]?
  | [], _, _, _, h, _ => h
  | k :: ks, a1, a2, hm, h, hs => by
    refine puts_get ks _ _ (fun j hj => hm j (List.mem_cons_of_mem _ hj)) ?_ ?_
    · by_cases hd : (ops[k]?).bind (·.dst) = some t
      · have := hm k (by simp) hd
        rw [this, hd]
        cases m2 k
        · simpa using h
        · simp only [if_true, Act.put]
          by_cases hlt : t < a1.tmps.size
          · rw [Array.getElem?_setIfInBounds_self_of_lt hlt, Array.getElem?_setIfInBounds_self_of_lt (by omega)]
          · rw [Array.getElem?_eq_none (by simpa using hlt), Array.getElem?_eq_none (by simp; omega)]
      · have far : ∀ (b : Act) (v : Value), (b.put ((ops[k]?).bind (·.dst)) v).tmps[t]? = b.tmps[t]? := fun b v => by
          cases hk : (ops[k]?).bind (·.dst) with
          | none => rfl
          | some d =>
            have : d ≠ t := fun e => hd (by rw [hk, e])
            simp [Act.put, Array.getElem?_setIfInBounds_ne this]
        cases m1 k <;> cases m2 k <;> simp [far, h]
    · cases m1 k <;> cases m2 k <;> simp [put_size, hs]

theorem puts_congr {vs : Nat → Value} {m1 m2 : Nat → Bool} : ∀ (ks : List Nat) (a : Act), (∀ k ∈ ks, m1 k = m2 k) → puts ops vs m1 ks a = puts ops vs m2 ks a
  | [], _, _ => rfl
  | k :: ks, a, h => by
    unfold puts
    rw [h k (by simp)]
    exact puts_congr ks _ (fun j hj => h j (List.mem_cons_of_mem _ hj))

theorem puts_put {vs : Nat → Value} {m : Nat → Bool} {d : Option Tmp} {v : Value} : ∀ (ks : List Nat) (a : Act), (∀ k ∈ ks, m k = true → ∀ t, d = some t → (ops[k]?).bind (·.dst) ≠ some t) →
    puts ops vs m ks (a.put d v) = (puts ops vs m ks a).put d v
  | [], _, _ => rfl
  | k :: ks, a, h => by
    unfold puts
    cases hm : m k
    · simpa using puts_put ks a (fun j hj => h j (List.mem_cons_of_mem _ hj))
    · simp only [if_true]
      rw [Act.put_comm a v (vs k) (h k (by simp) hm)]
      exact puts_put ks _ (fun j hj => h j (List.mem_cons_of_mem _ hj))

/-- One more has put its value. -/
theorem puts_more {vs : Nat → Value} {m m' : Nat → Bool} {i : Nat} : ∀ (ks : List Nat) (a : Act), ks.Pairwise (· < ·) → i ∈ ks → m i = false → m' i = true → (∀ k, k ≠ i → m' k = m k) →
    (∀ k ∈ ks, i < k → m k = true → ∀ t, (ops[i]?).bind (·.dst) = some t → (ops[k]?).bind (·.dst) ≠ some t) →
    puts ops vs m' ks a = (puts ops vs m ks a).put ((ops[i]?).bind (·.dst)) (vs i)
  | [], _, _, h, _, _, _, _ => by cases h
  | k :: ks, a, hn, hi, h0, h1, he, hd => by
    obtain ⟨hk, hn⟩ := List.pairwise_cons.1 hn
    unfold puts
    by_cases hki : k = i
    · subst hki
      simp only [h0, h1, if_true, Bool.false_eq_true, if_false]
      rw [puts_congr (m1 := m') (m2 := m) ks _ (fun j hj => he j (Nat.ne_of_gt (hk j hj)))]
      exact puts_put ks a (fun j hj hm t ht => hd j (List.mem_cons_of_mem _ hj) (hk j hj) hm t ht)
    · rw [he k hki]
      have hi' : i ∈ ks := by
        rcases List.mem_cons.1 hi with e | e
        · exact absurd e.symm hki
        · exact e
      exact puts_more ks _ hn hi' h0 h1 he (fun j hj => hd j (List.mem_cons_of_mem _ hj))

theorem puts_vals {vs vs' : Nat → Value} {m : Nat → Bool} : ∀ (ks : List Nat) (a : Act), (∀ k ∈ ks, vs' k = vs k) → puts ops vs' m ks a = puts ops vs m ks a
  | [], _, _ => rfl
  | k :: ks, a, h => by
    unfold puts
    rw [h k (by simp)]
    exact puts_vals ks _ (fun j hj => h j (List.mem_cons_of_mem _ hj))

theorem filt_le {p q : Nat → Bool} : ∀ l : List Nat, (∀ k, q k = true → p k = true) → (l.filter q).length ≤ (l.filter p).length
  | [], _ => Nat.le_refl _
  | x :: xs, h => by
    have ih := filt_le xs h
    rw [List.filter_cons, List.filter_cons]
    cases hq : q x
    · cases hp : p x <;> simp <;> omega
    · simp [h x hq]; omega
theorem filt_lt {p q : Nat → Bool} {i : Nat} : ∀ l : List Nat, i ∈ l → (∀ k, q k = true → p k = true) → p i = true → q i = false → (l.filter q).length < (l.filter p).length
  | [], h, _, _, _ => by cases h
  | x :: xs, h, hqp, hp, hq => by
    have ihle := filt_le xs hqp
    rw [List.filter_cons, List.filter_cons]
    rcases List.mem_cons.1 h with e | e
    · subst e
      simp [hp, hq]; omega
    · have ih := filt_lt xs e hqp hp hq
      cases hqx : q x
      · cases hpx : p x <;> simp <;> omega
      · simp [hqp x hqx]; omega

/-- Each operation waits for earlier ones alone; of any two, the later one waits for the earlier one, or they are apart. -/
def planOk (md : Region.Mode) (ops : Array Oper) : Bool :=
  (List.range ops.size).all fun i => match ops[i]? with
    | none => true
    | some o => (o.after.all fun e => !Region.binds md e || decide (e.on < i)) &&
      (List.range i).all fun j => (o.after.any fun e => Region.binds md e && e.on == j) || (match ops[j]? with | some p => p.apart ops o | none => true)

theorem planOk_spec (h : planOk md ops = true) {i : Nat} {o : Oper} (ho : ops[i]? = some o) :
    (∀ e ∈ o.after, Region.binds md e = true → e.on < i) ∧ ∀ j p, j < i → ops[j]? = some p → (∀ e ∈ o.after, Region.binds md e = true → e.on ≠ j) → p.apart ops o = true := by
  have hlt : i < ops.size := (Array.getElem?_eq_some_iff.1 ho).1
  unfold planOk at h
  have h1 := List.all_eq_true.1 h i (List.mem_range.2 hlt)
  simp only [ho, Bool.and_eq_true] at h1
  obtain ⟨h1, h2⟩ := h1
  refine ⟨fun e he hb => ?_, fun j p hj hp hno => ?_⟩
  · have := Array.all_eq_true_iff_forall_mem.1 h1 e he
    simpa [hb] using this
  · have := List.all_eq_true.1 h2 j (List.mem_range.2 hj)
    simp only [hp, Bool.or_eq_true] at this
    rcases this with this | this
    · obtain ⟨n, hn, hb⟩ := Array.any_eq_true.1 this
      simp only [Bool.and_eq_true, beq_iff_eq] at hb
      exact absurd hb.2 (hno _ (Array.getElem_mem hn) hb.1)
    · exact this

theorem wpAny_plan (hok : planOk md ops = true) (hsel : Region.noSelect ops = true) (vs : Nat → Value) (a : Act)
    (hD : ∀ i o, ops[i]? = some o → Does P ops S o (vs i) (puts ops vs (fun _ => true) (List.range i) a))
    (hQ : ∀ w', S w' → Q .normal (puts ops vs (fun _ => true) (List.range ops.size) a) w') :
    ∀ (fuel : Nat) (listed : Array Bool) (w : World), listed.size = ops.size →
      (∀ i o, ops[i]? = some o → listed.getD i false = true → ∀ e ∈ o.after, Region.binds md e = true → listed.getD e.on false = true) →
      ((List.range ops.size).filter fun k => !listed.getD k false).length ≤ fuel → S w →
      wpAny P md ops Q fuel listed (puts ops vs (fun k => listed.getD k false) (List.range ops.size) a) w := by
  have hs := Region.noSelect_spec hsel
  have hend : ∀ (listed : Array Bool), listed.size = ops.size → Region.ready md ops listed = [] → ∀ k, k < ops.size → listed.getD k false = true := by
    intro listed hsz hr k
    induction k using Nat.strongRecOn with
    | _ k ih =>
      intro hk
      cases hl : listed.getD k false with
      | true => rfl
      | false =>
        have hmem : k ∈ Region.ready md ops listed := by
          rw [mem_ready]
          refine ⟨by rw [Array.getD_eq_getD_getElem?] at hl ⊢; rw [Array.getElem?_eq_getElem (by omega)] at hl ⊢; exact hl, ops[k], Array.getElem?_eq_getElem hk, fun e he hb => ?_⟩
          have := (planOk_spec hok (Array.getElem?_eq_getElem hk)).1 e he hb
          exact ih e.on this (by omega)
        rw [hr] at hmem
        cases hmem
  have hfin : ∀ (listed : Array Bool) (w : World), listed.size = ops.size → S w → Region.ready md ops listed = [] → Q .normal (puts ops vs (fun k => listed.getD k false) (List.range ops.size) a) w := by
    intro listed w hsz hS hr
    rw [puts_congr (m2 := fun _ => true) (List.range ops.size) a (fun k hk => hend listed hsz hr k (List.mem_range.1 hk))]
    exact hQ w hS
  intro fuel
  induction fuel with
  | zero =>
    intro listed w hsz hcl hle hS
    have hr : Region.ready md ops listed = [] := by
      cases hx : Region.ready md ops listed with
      | nil => rfl
      | cons x xs =>
        have hm : x ∈ Region.ready md ops listed := by rw [hx]; simp
        obtain ⟨h0, o, ho, _⟩ := mem_ready.1 hm
        have hlt : x < ops.size := (Array.getElem?_eq_some_iff.1 ho).1
        have hmf : x ∈ (List.range ops.size).filter fun k => !listed.getD k false := by
          rw [List.mem_filter]
          refine ⟨List.mem_range.2 hlt, ?_⟩
          rw [Array.getD_eq_getD_getElem?] at h0 ⊢; rw [Array.getElem?_eq_getElem (by omega)] at h0 ⊢
          simpa using h0
        rw [List.length_eq_zero_iff.1 (Nat.le_zero.1 hle)] at hmf
        cases hmf
    exact ⟨hr, hfin listed w hsz hS hr⟩
  | succ fuel ih =>
    intro listed w hsz hcl hle hS
    refine ⟨hfin listed w hsz hS, fun i hi => ?_⟩
    obtain ⟨h0, o, ho, hall⟩ := mem_ready.1 hi
    have hlt : i < ops.size := (Array.getElem?_eq_some_iff.1 ho).1
    have h0' : listed.getD i false = false := by
      rw [Array.getD_eq_getD_getElem?] at h0 ⊢; rw [Array.getElem?_eq_getElem (by omega)] at h0 ⊢; exact h0
    -- whoever is on the other side of i than in the text is apart from it
    have hap : ∀ k p, ops[k]? = some p → k ≠ i → (k < i ∧ listed.getD k false = false ∨ i < k ∧ listed.getD k false = true) → p.apart ops o = true ∨ o.apart ops p = true := by
      intro k p hp hki hk
      rcases hk with ⟨hk1, hk2⟩ | ⟨hk1, hk2⟩
      · exact .inl ((planOk_spec hok ho).2 k p hk1 hp (fun e he hb heq => by
          have := hall e he hb
          rw [heq, hk2] at this
          cases this))
      · exact .inr ((planOk_spec hok hp).2 i o hk1 ho (fun e he hb heq => by
          have := hcl k p hp hk2 e he hb
          rw [heq, h0'] at this
          cases this))
    have hlook : ∀ k p, ops[k]? = some p → k ≠ i → (k < i ∧ listed.getD k false = false ∨ i < k ∧ listed.getD k false = true) → ∀ t, p.dst = some t → t ∉ o.looksAt ops := by
      intro k p hp hki hk t ht
      rcases hap k p hp hki hk with h | h
      · exact (Oper.apart_spec h).1 t ht
      · exact (Oper.apart_spec h).2.2 t ht
    -- the frame as the operation meets it, and as the text has it
    have hdoes : Does P ops S o (vs i) (puts ops vs (fun k => listed.getD k false) (List.range ops.size) a) := by
      refine Does.of_looks (fun cs b => hs i o cs b ho) ?_ (hD i o ho)
      intro t ht
      have hsplit : puts ops vs (fun _ => true) (List.range i) a = puts ops vs (fun k => decide (k < i)) (List.range ops.size) a := by
        obtain ⟨n, hn⟩ : ∃ n, ops.size = i + n := ⟨ops.size - i, by omega⟩
        rw [hn]
        clear hn
        induction n with
        | zero => exact puts_congr _ _ (fun k hk => by simp [List.mem_range.1 hk])
        | succ n ihn =>
          rw [ihn, ← Nat.add_assoc, List.range_succ]
          have happ : ∀ (l1 l2 : List Nat) (m : Nat → Bool) (b : Act), puts ops vs m (l1 ++ l2) b = puts ops vs m l2 (puts ops vs m l1 b) := by
            intro l1
            induction l1 with
            | nil => intros; rfl
            | cons x xs ihx => intro l2 m b; exact ihx l2 m _
          rw [happ]
          have : decide (i + n < i) = false := by simp
          simp [puts, this]
      rw [hsplit]
      refine puts_get _ _ _ (fun k hk hdst => ?_) rfl rfl
      have hk := List.mem_range.1 hk
      obtain ⟨p, hp⟩ : ∃ p, ops[k]? = some p := ⟨ops[k], Array.getElem?_eq_getElem hk⟩
      simp only [hp, Option.bind_some] at hdst
      by_cases hki : k = i
      · subst hki; simp [h0']
      · cases hl : listed.getD k false with
        | false =>
          by_cases hlt' : k < i
          · exact absurd ht (hlook k p hp hki (.inl ⟨hlt', hl⟩) t hdst)
          · simp [hlt']
        | true =>
          by_cases hlt' : k < i
          · simp [hlt']
          · exact absurd ht (hlook k p hp hki (.inr ⟨by omega, hl⟩) t hdst)
    refine hdoes.wpOp ho hS (fun w' hS' => ?_)
    have hm' : ∀ k, k ≠ i → (listed.setIfInBounds i true).getD k false = listed.getD k false := fun k hk => getD_set_ne false (Ne.symm hk)
    have hmi : (listed.setIfInBounds i true).getD i false = true := by
      have : i < listed.size := by omega
      simp [this]
    have heq := puts_more (ops := ops) (vs := vs) (m := fun k => listed.getD k false) (m' := fun k => (listed.setIfInBounds i true).getD k false) (i := i) (List.range ops.size) a
      List.pairwise_lt_range (List.mem_range.2 hlt) h0' hmi hm' (fun k hk hik hl t ht hkt => by
        have hk := List.mem_range.1 hk
        obtain ⟨p, hp⟩ : ∃ p, ops[k]? = some p := ⟨ops[k], Array.getElem?_eq_getElem hk⟩
        simp only [hp, ho, Option.bind_some] at hkt ht
        rcases hap k p hp (by omega) (.inr ⟨hik, hl⟩) with h | h
        · exact (Oper.apart_spec h).2.1 t hkt ht
        · exact (Oper.apart_spec h).2.1 t ht hkt)
    rw [ho, Option.bind_some] at heq
    rw [← heq]
    refine ih _ w' (by simpa using hsz) ?_ ?_ hS'
    · intro j p hp hj e he hb
      by_cases hji : j = i
      · subst hji
        rw [ho] at hp; cases hp
        exact getD_set_true (hall e he hb)
      · rw [hm' j hji] at hj
        exact getD_set_true (hcl j p hp hj e he hb)
    · have hlen : ((List.range ops.size).filter fun k => !(listed.setIfInBounds i true).getD k false).length < ((List.range ops.size).filter fun k => !listed.getD k false).length := by
        refine filt_lt (i := i) _ (List.mem_range.2 hlt) (fun k hk => ?_) (by simpa using h0') (by simpa using hmi)
        by_cases hki : k = i
        · subst hki; simpa using h0'
        · rw [hm' k hki] at hk; exact hk
      omega

/-- THE REGION: each operation, in the text's order, yields its value. -/
def Plan (P : Program) (ops : Array Oper) (S : World → Prop) (K : Act → Prop) : List Oper → Act → Prop
  | [], a => K a
  | o :: r, a => ∃ v, Does P ops S o v a ∧ Plan P ops S K r (a.put o.dst v)

theorem Plan.puts {K : Act → Prop} : ∀ (l : List Oper) (n : Nat) (a : Act), ops.toList.drop n = l → Plan P ops S K l a →
    ∃ vs : Nat → Value, (∀ i o, n ≤ i → ops[i]? = some o → Does P ops S o (vs i) (Proofs.Ytkabpnchfhkhgaa.puts ops vs (fun _ => true) ((List.range (i - n)).map (· + n)) a)) ∧
      K (Proofs.Ytkabpnchfhkhgaa.puts ops vs (fun _ => true) ((List.range (ops.size - n)).map (· + n)) a)
  | [], n, a, hl, h => by
    have hn : ops.size ≤ n := by
      have := congrArg List.length hl
      simp at this
      omega
    refine ⟨fun _ => undef, fun i o hi ho => ?_, ?_⟩
    · have := (Array.getElem?_eq_some_iff.1 ho).1
      omega
    · rw [Nat.sub_eq_zero_of_le hn]
      exact h
  | o :: r, n, a, hl, h => by
    obtain ⟨v, hv, hr⟩ := h
    have hn : n < ops.size := by
      have := congrArg List.length hl
      simp at this
      omega
    have hdrop : ops.toList.drop n = ops[n] :: ops.toList.drop (n + 1) := by
      rw [List.drop_eq_getElem_cons (by simpa using hn)]
      simp
    rw [hl] at hdrop
    obtain ⟨e1, e2⟩ := List.cons.inj hdrop
    have hon : ops[n]? = some o := by rw [Array.getElem?_eq_getElem hn, e1]
    obtain ⟨vs, h1, h2⟩ := Plan.puts r (n + 1) (a.put o.dst v) e2.symm hr
    let vs' : Nat → Value := fun k => if k = n then v else vs k
    have same : ∀ (m : Nat) (b : Act), Proofs.Ytkabpnchfhkhgaa.puts ops vs' (fun _ => true) ((List.range m).map (· + (n + 1))) b = Proofs.Ytkabpnchfhkhgaa.puts ops vs (fun _ => true) ((List.range m).map (· + (n + 1))) b := by
      intro m b
      refine puts_vals _ _ (fun k hk => ?_)
      obtain ⟨j, _, rfl⟩ := List.mem_map.1 hk
      exact if_neg (by omega)
    have first : ∀ m, n < m → Proofs.Ytkabpnchfhkhgaa.puts ops vs' (fun _ => true) ((List.range (m - n)).map (· + n)) a = Proofs.Ytkabpnchfhkhgaa.puts ops vs (fun _ => true) ((List.range (m - (n + 1))).map (· + (n + 1))) (a.put o.dst v) := by
      intro m hm
      have hr : (List.range (m - n)).map (· + n) = n :: (List.range (m - (n + 1))).map (· + (n + 1)) := by
        rw [show m - n = (m - (n + 1)) + 1 by omega, List.range_succ_eq_map, List.map_cons, List.map_map]
        congr 1
        · omega
        · apply List.map_congr_left
          intro x _
          show x + 1 + n = x + (n + 1)
          omega
      rw [hr]
      show Proofs.Ytkabpnchfhkhgaa.puts ops vs' (fun _ => true) _ (if true = true then a.put ((ops[n]?).bind (·.dst)) (vs' n) else a) = _
      rw [if_pos rfl, hon, show vs' n = v from if_pos rfl]
      exact same _ _
    refine ⟨vs', fun i o' hi ho => ?_, ?_⟩
    · by_cases hin : i = n
      · subst hin
        rw [hon] at ho; cases ho
        rw [Nat.sub_self, show vs' i = v from if_pos rfl]
        exact hv
      · rw [first i (by omega), show vs' i = vs i from if_neg hin]
        exact h1 i o' (by omega) ho
    · rw [first ops.size hn]
      exact h2

theorem map_zero (n : Nat) : (List.range n).map (· + 0) = List.range n := by simp

theorem wp_region_plan {id : Nat} {a : Act} {w : World} (S : World → Prop) (hm : P.follows .mixedOrders = true) (hok : planOk .any ops = true) (hsel : Region.noSelect ops = true) (hS : S w.drew)
    (h : Plan P ops S (fun a' => ∀ w', S w' → Q .normal a' w') ops.toList a) : (Code.region id ops true).wp P Q a w := by
  obtain ⟨vs, h1, h2⟩ := Plan.puts ops.toList 0 a rfl h
  refine wp_region_any hm ?_
  have hz : ∀ k, (Array.replicate ops.size false).getD k false = false := fun k => by
    rw [Array.getD_eq_getD_getElem?, Array.getElem?_replicate]; split <;> rfl
  have h3 := wpAny_plan (Q := Q) hok hsel vs a (fun i o ho => by have := h1 i o (Nat.zero_le _) ho; rwa [Nat.sub_zero, map_zero] at this) (by rwa [Nat.sub_zero, map_zero] at h2)
    ops.size (Array.replicate ops.size false) w.drew (by simp) (fun i o _ hl => by rw [hz] at hl; cases hl) (by
      refine Nat.le_trans (List.length_filter_le _ _) ?_
      simp) hS
  have h4 : Proofs.Ytkabpnchfhkhgaa.puts ops vs (fun k => (Array.replicate ops.size false).getD k false) (List.range ops.size) a = a := by
    have : ∀ (ks : List Nat), Proofs.Ytkabpnchfhkhgaa.puts ops vs (fun k => (Array.replicate ops.size false).getD k false) ks a = a := by
      intro ks
      induction ks with
      | nil => rfl
      | cons x xs ih =>
        unfold Proofs.Ytkabpnchfhkhgaa.puts
        rw [hz]
        exact ih
    exact this _
  rw [h4] at h3
  exact h3

theorem Plan.done {K : Act → Prop} {a : Act} (h : K a) : Plan P ops S K [] a := h
/-- It is not wanted. -/
theorem Plan.no {K : Act → Prop} {o : Oper} {r : List Oper} {a : Act} (hw : Region.wanted o (yielded ops a.tmps) = false) (h : Plan P ops S K r (a.put o.dst undef)) : Plan P ops S K (o :: r) a :=
  ⟨undef, .inr ⟨hw, rfl⟩, h⟩
/-- It yields v. -/
theorem Plan.val {K : Act → Prop} {o : Oper} {r : List Oper} {a : Act} {v : Value} (hw : Region.wanted o (yielded ops a.tmps) = true) (hv : ∀ w, S w → (execOp a.eval o).run P w = .ok (.value v) w)
    (h : Plan P ops S K r (a.put o.dst v)) : Plan P ops S K (o :: r) a :=
  ⟨v, .inl ⟨hw, fun w hS => by rw [hv w hS]; exact ⟨rfl, hS⟩⟩, h⟩
/-- It is a call that hands back v, behind which S still holds. -/
theorem Plan.call {K : Act → Prop} {o : Oper} {r : List Oper} {a : Act} {v : Value} {f : FuncId} {args : Array Value} (hw : Region.wanted o (yielded ops a.tmps) = true)
    (hv : ∀ w, S w → (execOp a.eval o).run P w = .ok (.enter f args) w) (hc : ∀ w, S w → Calls P f args w fun e w' => e = .returned v ∧ S w')
    (h : Plan P ops S K r (a.put o.dst v)) : Plan P ops S K (o :: r) a :=
  ⟨v, .inl ⟨hw, fun w hS => by rw [hv w hS]; exact hc w hS⟩, h⟩

end
end Go.Proofs.Ytkabpnchfhkhgaa
set_option linter.unusedSimpArgs false
set_option linter.unusedVariables false
namespace Go.Proofs.Ytkabpnchfhkhgaa
open Go

section
variable {P : Program} {ops : Array Oper} {Q : Exit → Act → World → Prop} {md : Region.Mode} {S : World → Prop}

/-- A mark is as it was behind a call that only makes memory. -/
theorem kfz {W w1 : World} (hb : RowKit.Below W.heap.size W w1) {b o : Nat} (hlt : b < W.heap.size) (h : W.frozen? ⟨b, o, none⟩ = false) : w1.frozen? ⟨b, o, none⟩ = false := (hb.frozen (p := ⟨b, o, none⟩) hlt).trans h

/-- What an operation waits for, and what that waits for, so many steps far. -/
def anc (md : Region.Mode) (ops : Array Oper) : Nat → Nat → List Nat
  | 0, _ => []
  | f + 1, i => match ops[i]? with
    | none => []
    | some o => (o.after.toList.filter fun e => Region.binds md e).flatMap fun e => e.on :: anc md ops f e.on
theorem anc_listed {listed : Array Bool} (hcl : ∀ i o, ops[i]? = some o → listed.getD i false = true → ∀ e ∈ o.after, Region.binds md e = true → listed.getD e.on false = true) :
    ∀ (f i : Nat) (o : Oper), ops[i]? = some o → (∀ e ∈ o.after, Region.binds md e = true → listed.getD e.on false = true) → ∀ j ∈ anc md ops f i, listed.getD j false = true
  | 0, _, _, _, _, j, hj => by simp [anc] at hj
  | f + 1, i, o, ho, h, j, hj => by
    simp only [anc, ho, List.mem_flatMap, List.mem_filter, List.mem_cons] at hj
    obtain ⟨e, ⟨he, hb⟩, hj⟩ := hj
    have he' : e ∈ o.after := Array.mem_toList_iff.1 he
    rcases hj with rfl | hj
    · exact h e he' hb
    · cases hp : ops[e.on]? with
      | none =>
        cases f with
        | zero => simp [anc] at hj
        | succ f => simp [anc, hp] at hj
      | some p => exact anc_listed hcl f e.on p hp (fun e' he' hb' => hcl e.on p hp (h e ‹_› hb) e' he' hb') j hj

/-- As planOk, of the first n; each one behind them waits for each of them. -/
def planOkT (md : Region.Mode) (ops : Array Oper) (n : Nat) : Bool :=
  decide (n ≤ ops.size) && ((List.range n).all fun i => match ops[i]? with
    | none => true
    | some o => (o.after.all fun e => !Region.binds md e || decide (e.on < i)) &&
      (List.range i).all fun j => (o.after.any fun e => Region.binds md e && e.on == j) || (match ops[j]? with | some p => p.apart ops o | none => true)) &&
  (List.range (ops.size - n)).all fun d => match ops[n + d]? with
    | none => true
    | some o => (List.range n).all fun j => (anc md ops 5 (n + d)).contains j

theorem planOkT_spec {n : Nat} (h : planOkT md ops n = true) {i : Nat} {o : Oper} (ho : ops[i]? = some o) (hlt : i < n) :
    (∀ e ∈ o.after, Region.binds md e = true → e.on < i) ∧ ∀ j p, j < i → ops[j]? = some p → (∀ e ∈ o.after, Region.binds md e = true → e.on ≠ j) → p.apart ops o = true := by
  unfold planOkT at h
  simp only [Bool.and_eq_true] at h
  have h1 := List.all_eq_true.1 h.1.2 i (List.mem_range.2 hlt)
  simp only [ho, Bool.and_eq_true] at h1
  obtain ⟨h1, h2⟩ := h1
  refine ⟨fun e he hb => ?_, fun j p hj hp hno => ?_⟩
  · have := Array.all_eq_true_iff_forall_mem.1 h1 e he
    simpa [hb] using this
  · have := List.all_eq_true.1 h2 j (List.mem_range.2 hj)
    simp only [hp, Bool.or_eq_true] at this
    rcases this with this | this
    · obtain ⟨n, hn, hb⟩ := Array.any_eq_true.1 this
      simp only [Bool.and_eq_true, beq_iff_eq] at hb
      exact absurd hb.2 (hno _ (Array.getElem_mem hn) hb.1)
    · exact this
theorem planOkT_tail {n : Nat} (h : planOkT md ops n = true) {i : Nat} {o : Oper} (ho : ops[i]? = some o) (hle : n ≤ i) {j : Nat} (hj : j < n) : j ∈ anc md ops 5 i := by
  have hlt : i < ops.size := (Array.getElem?_eq_some_iff.1 ho).1
  unfold planOkT at h
  simp only [Bool.and_eq_true] at h
  have h1 := List.all_eq_true.1 h.2 (i - n) (List.mem_range.2 (by omega))
  rw [show n + (i - n) = i by omega, ho] at h1
  have h2 := List.all_eq_true.1 h1 j (List.mem_range.2 hj)
  simpa using h2
theorem planOkT_le {n : Nat} (h : planOkT md ops n = true) : n ≤ ops.size := by
  unfold planOkT at h
  simp only [Bool.and_eq_true, decide_eq_true_eq] at h
  exact h.1.1

theorem filt_one {p q : Nat → Bool} {i : Nat} : ∀ l : List Nat, l.Nodup → i ∈ l → (∀ k, k ≠ i → q k = p k) → p i = true → q i = false → (l.filter q).length + 1 = (l.filter p).length
  | [], _, h, _, _, _ => by cases h
  | x :: xs, hn, h, he, hp, hq => by
    obtain ⟨hx, hn⟩ := List.nodup_cons.1 hn
    rw [List.filter_cons, List.filter_cons]
    by_cases e : x = i
    · subst e
      have : xs.filter q = xs.filter p := List.filter_congr (fun k hk => he k (fun e => hx (e ▸ hk)))
      simp [hp, hq, this]
    · have hi : i ∈ xs := by
        rcases List.mem_cons.1 h with h | h
        · exact absurd h.symm e
        · exact h
      have ih := filt_one xs hn hi he hp hq
      rw [he x e]
      cases p x <;> simp <;> omega

theorem wpAny_planG {n g : Nat} (skip : Nat → Bool) (Inv : Array Bool → Prop) (hok : planOkT md ops n = true) (hsel : Region.noSelect ops = true) (vs : Nat → Value) (a : Act)
    (hD : ∀ i o, i < n → skip i = false → ops[i]? = some o → Does P ops S o (vs i) (puts ops vs (fun _ => true) (List.range i) a))
    (hQ : ∀ (listed : Array Bool) (w' : World), listed.size = ops.size → (∀ k, listed.getD k false = decide (k < n)) → Inv listed → S w' → wpAny P md ops Q g listed (puts ops vs (fun _ => true) (List.range n) a) w')
    (hI : ∀ listed i, skip i = false → Inv listed → Inv (listed.setIfInBounds i true))
    (hH : ∀ (c : Nat) (listed : Array Bool) (w : World) (i : Nat) (o : Oper), ops[i]? = some o → i < n → skip i = true → Inv listed → listed.size = ops.size → listed.getD i false = false →
      (∀ i o, ops[i]? = some o → listed.getD i false = true → ∀ e ∈ o.after, Region.binds md e = true → listed.getD e.on false = true) →
      (∀ e ∈ o.after, Region.binds md e = true → listed.getD e.on false = true) →
      (∀ k, n ≤ k → listed.getD k false = false) → ((List.range n).filter fun k => !listed.getD k false).length = c + 1 → S w →
      wpOp P ops Q i (fun a' w' => wpAny P md ops Q (c + g) (listed.setIfInBounds i true) a' w') (puts ops vs (fun k => listed.getD k false) (List.range n) a) w) :
    ∀ (c : Nat) (listed : Array Bool) (w : World), listed.size = ops.size → Inv listed →
      (∀ i o, ops[i]? = some o → listed.getD i false = true → ∀ e ∈ o.after, Region.binds md e = true → listed.getD e.on false = true) →
      (∀ k, n ≤ k → listed.getD k false = false) →
      ((List.range n).filter fun k => !listed.getD k false).length = c → S w →
      wpAny P md ops Q (c + g) listed (puts ops vs (fun k => listed.getD k false) (List.range n) a) w := by
  have hs := Region.noSelect_spec hsel
  have hns := planOkT_le hok
  have hmin : ∀ (listed : Array Bool), listed.size = ops.size → ∀ k, k < n → listed.getD k false = false → ∃ i, i < n ∧ listed.getD i false = false ∧ i ∈ Region.ready md ops listed := by
    intro listed hsz k
    induction k using Nat.strongRecOn with
    | _ k ih =>
      intro hk hl
      by_cases hmem : k ∈ Region.ready md ops listed
      · exact ⟨k, hk, hl, hmem⟩
      · have hko : ops[k]? = some ops[k] := Array.getElem?_eq_getElem (by omega)
        have : ∃ e ∈ ops[k].after, Region.binds md e = true ∧ listed.getD e.on false = false := by
          apply Classical.byContradiction
          intro hno
          refine hmem ?_
          rw [mem_ready]
          refine ⟨by rw [Array.getD_eq_getD_getElem?] at hl ⊢; rw [Array.getElem?_eq_getElem (by omega)] at hl ⊢; exact hl, ops[k], hko, fun e he hb => ?_⟩
          cases hx : listed.getD e.on false with
          | true => rfl
          | false => exact absurd ⟨e, he, hb, hx⟩ hno
        obtain ⟨e, he, hb, hx⟩ := this
        have hlt := (planOkT_spec hok hko hk).1 e he hb
        exact ih e.on hlt (by omega) hx
  intro c
  induction c with
  | zero =>
    intro listed w hsz hinv hcl htl hle hS
    have hall : ∀ k, k < n → listed.getD k false = true := by
      intro k hk
      cases hl : listed.getD k false with
      | true => rfl
      | false =>
        have hmf : k ∈ (List.range n).filter fun k => !listed.getD k false := by
          rw [List.mem_filter]
          exact ⟨List.mem_range.2 hk, by rw [hl]; rfl⟩
        rw [List.length_eq_zero_iff.1 hle] at hmf
        cases hmf
    rw [puts_congr (m2 := fun _ => true) (List.range n) a (fun k hk => hall k (List.mem_range.1 hk)), Nat.zero_add]
    refine hQ listed w hsz (fun k => ?_) hinv hS
    by_cases hk : k < n
    · rw [hall k hk]; simp [hk]
    · rw [htl k (by omega)]; simp [hk]
  | succ c ih =>
    intro listed w hsz hinv hcl htl hle hS
    rw [show c + 1 + g = (c + g) + 1 by omega]
    have hsome : ∃ k, k < n ∧ listed.getD k false = false := by
      cases hx : (List.range n).filter fun k => !listed.getD k false with
      | nil => rw [hx] at hle; cases hle
      | cons x xs =>
        have hm : x ∈ (List.range n).filter fun k => !listed.getD k false := by rw [hx]; simp
        rw [List.mem_filter] at hm
        exact ⟨x, List.mem_range.1 hm.1, by simpa using hm.2⟩
    obtain ⟨k0, hk0, hl0⟩ := hsome
    refine ⟨fun hr => ?_, fun i hi => ?_⟩
    · obtain ⟨i, _, _, hm⟩ := hmin listed hsz k0 hk0 hl0
      rw [hr] at hm
      cases hm
    obtain ⟨h0, o, ho, hall⟩ := mem_ready.1 hi
    have hin : i < n := by
      apply Classical.byContradiction
      intro hno
      have := anc_listed hcl 5 i o ho hall k0 (planOkT_tail hok ho (by omega) hk0)
      rw [hl0] at this
      cases this
    have hlt : i < ops.size := by omega
    have h0' : listed.getD i false = false := by
      rw [Array.getD_eq_getD_getElem?] at h0 ⊢; rw [Array.getElem?_eq_getElem (by omega)] at h0 ⊢; exact h0
    cases hsk : skip i with
    | true => exact hH c listed w i o ho hin hsk hinv hsz h0' hcl hall htl hle hS
    | false =>
    -- whoever is on the other side of i than in the text is apart from it
    have hap : ∀ k p, ops[k]? = some p → k < n → k ≠ i → (k < i ∧ listed.getD k false = false ∨ i < k ∧ listed.getD k false = true) → p.apart ops o = true ∨ o.apart ops p = true := by
      intro k p hp hkn hki hk
      rcases hk with ⟨hk1, hk2⟩ | ⟨hk1, hk2⟩
      · exact .inl ((planOkT_spec hok ho hin).2 k p hk1 hp (fun e he hb heq => by
          have := hall e he hb
          rw [heq, hk2] at this
          cases this))
      · exact .inr ((planOkT_spec hok hp hkn).2 i o hk1 ho (fun e he hb heq => by
          have := hcl k p hp hk2 e he hb
          rw [heq, h0'] at this
          cases this))
    have hlook : ∀ k p, ops[k]? = some p → k < n → k ≠ i → (k < i ∧ listed.getD k false = false ∨ i < k ∧ listed.getD k false = true) → ∀ t, p.dst = some t → t ∉ o.looksAt ops := by
      intro k p hp hkn hki hk t ht
      rcases hap k p hp hkn hki hk with h | h
      · exact (Oper.apart_spec h).1 t ht
      · exact (Oper.apart_spec h).2.2 t ht
    -- the frame as the operation meets it, and as the text has it
    have hdoes : Does P ops S o (vs i) (puts ops vs (fun k => listed.getD k false) (List.range n) a) := by
      refine Does.of_looks (fun cs b => hs i o cs b ho) ?_ (hD i o hin hsk ho)
      intro t ht
      have hsplit : puts ops vs (fun _ => true) (List.range i) a = puts ops vs (fun k => decide (k < i)) (List.range n) a := by
        obtain ⟨d, hd⟩ : ∃ d, n = i + d := ⟨n - i, by omega⟩
        have : ∀ d, puts ops vs (fun _ => true) (List.range i) a = puts ops vs (fun k => decide (k < i)) (List.range (i + d)) a := by
         intro d
         induction d with
         | zero => exact puts_congr _ _ (fun k hk => by simp [List.mem_range.1 hk])
         | succ n ihn =>
          rw [ihn, ← Nat.add_assoc, List.range_succ]
          have happ : ∀ (l1 l2 : List Nat) (m : Nat → Bool) (b : Act), puts ops vs m (l1 ++ l2) b = puts ops vs m l2 (puts ops vs m l1 b) := by
            intro l1
            induction l1 with
            | nil => intros; rfl
            | cons x xs ihx => intro l2 m b; exact ihx l2 m _
          rw [happ]
          have : decide (i + n < i) = false := by simp
          simp [puts, this]
        rw [hd]; exact this d
      rw [hsplit]
      refine puts_get _ _ _ (fun k hk hdst => ?_) rfl rfl
      have hk := List.mem_range.1 hk
      obtain ⟨p, hp⟩ : ∃ p, ops[k]? = some p := ⟨ops[k]'(by omega), Array.getElem?_eq_getElem (by omega)⟩
      simp only [hp, Option.bind_some] at hdst
      by_cases hki : k = i
      · subst hki; simp [h0']
      · cases hl : listed.getD k false with
        | false =>
          by_cases hlt' : k < i
          · exact absurd ht (hlook k p hp hk hki (.inl ⟨hlt', hl⟩) t hdst)
          · simp [hlt']
        | true =>
          by_cases hlt' : k < i
          · simp [hlt']
          · exact absurd ht (hlook k p hp hk hki (.inr ⟨by omega, hl⟩) t hdst)
    refine hdoes.wpOp ho hS (fun w' hS' => ?_)
    have hm' : ∀ k, k ≠ i → (listed.setIfInBounds i true).getD k false = listed.getD k false := fun k hk => getD_set_ne false (Ne.symm hk)
    have hmi : (listed.setIfInBounds i true).getD i false = true := by
      have : i < listed.size := by omega
      simp [this]
    have heq := puts_more (ops := ops) (vs := vs) (m := fun k => listed.getD k false) (m' := fun k => (listed.setIfInBounds i true).getD k false) (i := i) (List.range n) a
      List.pairwise_lt_range (List.mem_range.2 hin) h0' hmi hm' (fun k hk hik hl t ht hkt => by
        have hk := List.mem_range.1 hk
        obtain ⟨p, hp⟩ : ∃ p, ops[k]? = some p := ⟨ops[k]'(by omega), Array.getElem?_eq_getElem (by omega)⟩
        simp only [hp, ho, Option.bind_some] at hkt ht
        rcases hap k p hp hk (by omega) (.inr ⟨hik, hl⟩) with h | h
        · exact (Oper.apart_spec h).2.1 t hkt ht
        · exact (Oper.apart_spec h).2.1 t ht hkt)
    rw [ho, Option.bind_some] at heq
    rw [← heq]
    refine ih _ w' (by simpa using hsz) (hI _ _ hsk hinv) ?_ (fun k hk => by rw [hm' k (by omega)]; exact htl k hk) ?_ hS'
    · intro j p hp hj e he hb
      by_cases hji : j = i
      · subst hji
        rw [ho] at hp; cases hp
        exact getD_set_true (hall e he hb)
      · rw [hm' j hji] at hj
        exact getD_set_true (hcl j p hp hj e he hb)
    · have hlen : ((List.range n).filter fun k => !(listed.setIfInBounds i true).getD k false).length + 1 = ((List.range n).filter fun k => !listed.getD k false).length := by
        refine filt_one (i := i) _ List.nodup_range (List.mem_range.2 hin) (fun k hk => ?_) (by simpa using h0') (by simpa using hmi)
        rw [hm' k hk]
      omega

theorem wpAny_planT {n g : Nat} (hok : planOkT md ops n = true) (hsel : Region.noSelect ops = true) (vs : Nat → Value) (a : Act)
    (hD : ∀ i o, i < n → ops[i]? = some o → Does P ops S o (vs i) (puts ops vs (fun _ => true) (List.range i) a))
    (hQ : ∀ (listed : Array Bool) (w' : World), listed.size = ops.size → (∀ k, listed.getD k false = decide (k < n)) → S w' → wpAny P md ops Q g listed (puts ops vs (fun _ => true) (List.range n) a) w')
    (c : Nat) (listed : Array Bool) (w : World) (hsz : listed.size = ops.size)
    (hcl : ∀ i o, ops[i]? = some o → listed.getD i false = true → ∀ e ∈ o.after, Region.binds md e = true → listed.getD e.on false = true)
    (htl : ∀ k, n ≤ k → listed.getD k false = false) (hle : ((List.range n).filter fun k => !listed.getD k false).length = c) (hS : S w) :
    wpAny P md ops Q (c + g) listed (puts ops vs (fun k => listed.getD k false) (List.range n) a) w :=
  wpAny_planG (fun _ => false) (fun _ => True) hok hsel vs a (fun i o h _ ho => hD i o h ho) (fun l w' h1 h2 _ h3 => hQ l w' h1 h2 h3) (fun _ _ _ _ => trivial) (fun _ _ _ _ _ _ _ h => by cases h) c listed w hsz trivial hcl htl hle hS

theorem Plan.take {K : Act → Prop} (n : Nat) : ∀ (l : List Oper) (m : Nat) (a : Act), (ops.toList.take n).drop m = l → m ≤ n → n ≤ ops.size → Plan P ops S K l a →
    ∃ vs : Nat → Value, (∀ i o, m ≤ i → i < n → ops[i]? = some o → Does P ops S o (vs i) (Proofs.Ytkabpnchfhkhgaa.puts ops vs (fun _ => true) ((List.range (i - m)).map (· + m)) a)) ∧
      K (Proofs.Ytkabpnchfhkhgaa.puts ops vs (fun _ => true) ((List.range (n - m)).map (· + m)) a)
  | [], m, a, hl, hmn, hns, h => by
    have hn : n ≤ m := by
      have := congrArg List.length hl
      simp at this
      omega
    refine ⟨fun _ => undef, fun i o hi hin ho => by omega, ?_⟩
    rw [Nat.sub_eq_zero_of_le hn]
    exact h
  | o :: r, m, a, hl, hmn, hns, h => by
    obtain ⟨v, hv, hr⟩ := h
    have hn : m < n := by
      have := congrArg List.length hl
      simp at this
      omega
    have hdrop : (ops.toList.take n).drop m = ops[m]'(by omega) :: (ops.toList.take n).drop (m + 1) := by
      rw [List.drop_eq_getElem_cons (by simp; omega)]
      simp
    rw [hl] at hdrop
    obtain ⟨e1, e2⟩ := List.cons.inj hdrop
    have hon : ops[m]? = some o := by rw [Array.getElem?_eq_getElem (by omega), e1]
    obtain ⟨vs, h1, h2⟩ := Plan.take n r (m + 1) (a.put o.dst v) e2.symm (by omega) hns hr
    let vs' : Nat → Value := fun k => if k = m then v else vs k
    have same : ∀ (j : Nat) (b : Act), Proofs.Ytkabpnchfhkhgaa.puts ops vs' (fun _ => true) ((List.range j).map (· + (m + 1))) b = Proofs.Ytkabpnchfhkhgaa.puts ops vs (fun _ => true) ((List.range j).map (· + (m + 1))) b := by
      intro j b
      refine puts_vals _ _ (fun k hk => ?_)
      obtain ⟨x, _, rfl⟩ := List.mem_map.1 hk
      exact if_neg (by omega)
    have first : ∀ j, m < j → Proofs.Ytkabpnchfhkhgaa.puts ops vs' (fun _ => true) ((List.range (j - m)).map (· + m)) a = Proofs.Ytkabpnchfhkhgaa.puts ops vs (fun _ => true) ((List.range (j - (m + 1))).map (· + (m + 1))) (a.put o.dst v) := by
      intro j hj
      have hr : (List.range (j - m)).map (· + m) = m :: (List.range (j - (m + 1))).map (· + (m + 1)) := by
        rw [show j - m = (j - (m + 1)) + 1 by omega, List.range_succ_eq_map, List.map_cons, List.map_map]
        congr 1
        · omega
        · apply List.map_congr_left
          intro x _
          show x + 1 + m = x + (m + 1)
          omega
      rw [hr]
      show Proofs.Ytkabpnchfhkhgaa.puts ops vs' (fun _ => true) _ (if true = true then a.put ((ops[m]?).bind (·.dst)) (vs' m) else a) = _
      rw [if_pos rfl, hon, show vs' m = v from if_pos rfl]
      exact same _ _
    refine ⟨vs', fun i o' hi hin ho => ?_, ?_⟩
    · by_cases him : i = m
      · subst him
        rw [hon] at ho; cases ho
        rw [Nat.sub_self, show vs' i = v from if_pos rfl]
        exact hv
      · rw [first i (by omega), show vs' i = vs i from if_neg him]
        exact h1 i o' (by omega) hin ho
    · rw [first n hn]
      exact h2

/-- The flags behind the first n. -/
def heads (size n : Nat) : Array Bool := ((List.range size).map fun k => decide (k < n)).toArray
theorem heads_of {listed : Array Bool} {n : Nat} (hn : n ≤ ops.size) (hsz : listed.size = ops.size) (h : ∀ k, listed.getD k false = decide (k < n)) : listed = heads ops.size n := by
  apply Array.ext
  · simp [heads, hsz]
  · intro i h1 h2
    have := h i
    rw [Array.getD_eq_getD_getElem?, Array.getElem?_eq_getElem h1] at this
    simp only [Option.getD_some] at this
    rw [this]
    simp [heads]

/-- THE REGION: its first n in whatever order; then what is left, one by one. -/
theorem wp_region_planT {id : Nat} {a : Act} {w : World} (n : Nat) (S : World → Prop) (hm : P.follows .mixedOrders = true) (hok : planOkT .any ops n = true) (hsel : Region.noSelect ops = true)
    (hseq : Region.seqB .any ops (ops.size - n) n (heads ops.size n) = true) (hS : S w.drew)
    (h : Plan P ops S (fun a' => ∀ w', S w' → wpList P ops Q (ops.toList.drop n) a' w') (ops.toList.take n) a) : (Code.region id ops true).wp P Q a w := by
  have hns := planOkT_le hok
  obtain ⟨vs, h1, h2⟩ := Plan.take n (ops.toList.take n) 0 a rfl (Nat.zero_le _) hns h
  refine wp_region_any hm ?_
  have hz : ∀ k, (Array.replicate ops.size false).getD k false = false := fun k => by
    rw [Array.getD_eq_getD_getElem?, Array.getElem?_replicate]; split <;> rfl
  rw [Nat.sub_zero, map_zero] at h2
  have hlen : (ops.toList.drop n).length = ops.size - n := by simp
  have h3 := wpAny_planT (Q := Q) (n := n) (g := ops.size - n) hok hsel vs a (fun i o hin ho => by have := h1 i o (Nat.zero_le _) hin ho; rwa [Nat.sub_zero, map_zero] at this)
    (fun listed w' hsz hl hS' => by
      rw [heads_of hns hsz hl, ← hlen]
      refine wpAny_of_seq (ops.toList.drop n) n _ _ _ (fun j => by simp) (by rw [hlen]; exact hseq) (h2 w' hS'))
    n (Array.replicate ops.size false) w.drew (by simp) (fun i o _ hl => by rw [hz] at hl; cases hl) (fun k _ => hz k) (by
      rw [List.filter_eq_self.2 (fun k _ => by rw [hz]; rfl)]
      simp) hS
  have h4 : Proofs.Ytkabpnchfhkhgaa.puts ops vs (fun k => (Array.replicate ops.size false).getD k false) (List.range n) a = a := by
    have : ∀ (ks : List Nat), Proofs.Ytkabpnchfhkhgaa.puts ops vs (fun k => (Array.replicate ops.size false).getD k false) ks a = a := by
      intro ks
      induction ks with
      | nil => rfl
      | cons x xs ih =>
        unfold Proofs.Ytkabpnchfhkhgaa.puts
        rw [hz]
        exact ih
    exact this _
  rw [h4, show n + (ops.size - n) = ops.size by omega] at h3
  exact h3
end
end Go.Proofs.Ytkabpnchfhkhgaa
set_option linter.unusedSimpArgs false
set_option linter.unusedVariables false
namespace Go.Proofs.Ytkabpnchfhkhgaa
open Go.RowKit

theorem kc {W w1 : World} (hb : Below W.heap.size W w1) {b o : Nat} {v : Value} (h : W.cell? ⟨b, o, none⟩ = some v) : w1.cell? ⟨b, o, none⟩ = some v := by
  refine (hb.cell (p := ⟨b, o, none⟩) ?_).trans h
  show b < W.heap.size
  unfold World.cell? at h
  by_cases hlt : b < W.heap.size
  · exact hlt
  · rw [Array.getElem?_eq_none (by show W.heap.size ≤ b; omega)] at h
    cases h
theorem klt {W : World} {b o : Nat} {v : Value} (h : W.cell? ⟨b, o, none⟩ = some v) : b < W.heap.size := by
  unfold World.cell? at h
  by_cases hlt : b < W.heap.size
  · exact hlt
  · rw [Array.getElem?_eq_none (by show W.heap.size ≤ b; omega)] at h
    cases h
theorem kb {w W w1 : World} (h : Below w.heap.size w W) (hb : Below W.heap.size W w1) : Below w.heap.size w w1 := h.trans (hb.mono h.size)
theorem kl {W w1 : World} (hb : Below W.heap.size W w1) {n : Nat} (h : n < W.heap.size) : n < w1.heap.size := Nat.lt_of_lt_of_le h hb.size
theorem kbn {n : Nat} {w W w1 : World} (hn : n ≤ w.heap.size) (h : Below n w W) (hb : Below W.heap.size W w1) : Below n w w1 := h.trans (hb.mono (Nat.le_trans hn h.size))
/-- The world gets a name: of it is known what S says. -/
theorem wp_pin {P : Program} {c : Code} {Q : Exit → Act → World → Prop} {a : Act} {w : World} (S : World → Prop) (hS : S w) (h : ∀ W, S W → c.wp P Q a W) : c.wp P Q a w := h w hS
end Go.Proofs.Ytkabpnchfhkhgaa
set_option linter.unusedSimpArgs false
set_option linter.unusedVariables false
namespace Go.Proofs.Ytkabpnchfhkhgaa
open Go

section
variable {P : Program} {ops : Array Oper} {Q : Exit → Act → World → Prop} {md : Region.Mode} {S : World → Prop}

/-- As One, and nothing turns that was there. -/
def OneB (P : Program) (w : World) (v : Value) : Result Next → Prop
  | .ok (.value u) w' => u = v ∧ RowKit.Below w.heap.size w w'
  | .ok (.enter f args) w' => w' = w ∧ Calls P f args w fun e w'' => e = .returned v ∧ RowKit.Below w.heap.size w w''
  | _ => False
def DoesB (P : Program) (ops : Array Oper) (S : World → Prop) (o : Oper) (v : Value) (a : Act) : Prop :=
  (Region.wanted o (yielded ops a.tmps) = true ∧ ∀ w, S w → OneB P w v ((execOp a.eval o).run P w)) ∨
  (Region.wanted o (yielded ops a.tmps) = false ∧ v = undef)
def Stable (S : World → Prop) : Prop := ∀ W w1, S W → RowKit.Below W.heap.size W w1 → S w1

theorem DoesB.does {o : Oper} {v : Value} {a : Act} {X : World → Prop} (hst : Stable S) (hX : Stable X) (h : DoesB P ops S o v a) : Does P ops (fun w => S w ∧ X w) o v a := by
  rcases h with ⟨hw, h⟩ | h
  · refine .inl ⟨hw, fun w hS => ?_⟩
    have h1 := h w hS.1
    generalize (execOp a.eval o).run P w = r at *
    cases r with
    | ok n w' =>
      cases n <;> simp only [OneB] at h1
      case value u => exact ⟨h1.1, hst w w' hS.1 h1.2, hX w w' hS.2 h1.2⟩
      case enter f args =>
        obtain ⟨rfl, h1⟩ := h1
        exact Calls.mono h1 fun e w'' he => ⟨he.1, hst _ _ hS.1 he.2, hX _ _ hS.2 he.2⟩
    | halt x w' => simp only [OneB] at h1
  · exact .inr h

theorem wpOp_value {i : Nat} {o : Oper} {a : Act} {v : Value} {w w' : World} {K : Act → World → Prop} (ho : ops[i]? = some o) (hw : Region.wanted o (yielded ops a.tmps) = true)
    (hr : (execOp a.eval o).run P w = .ok (.value v) w') (h : K (a.put o.dst v) w') : Go.wpOp P ops Q i K a w := by
  unfold Go.wpOp
  simp only [ho, hw, if_true]
  refine .inl ?_
  unfold Oper.wp
  rw [hr]
  exact h

/-- The first operations, in the text's order, but for the one that makes the block. -/
def PlanA (P : Program) (ops : Array Oper) (S : World → Prop) (K : Act → Prop) (k : Nat) : Nat → List Oper → Act → Prop
  | _, [], a => K a
  | m, o :: r, a => if m = k then PlanA P ops S K k (m + 1) r a else ∃ v, DoesB P ops S o v a ∧ PlanA P ops S K k (m + 1) r (a.put o.dst v)

theorem PlanA.take {K : Act → Prop} {k : Nat} (n : Nat) : ∀ (l : List Oper) (m : Nat) (a : Act), (ops.toList.take n).drop m = l → m ≤ n → n ≤ ops.size → PlanA P ops S K k m l a →
    ∃ vs : Nat → Value, (∀ i o, m ≤ i → i < n → i ≠ k → ops[i]? = some o → DoesB P ops S o (vs i) (Proofs.Ytkabpnchfhkhgaa.puts ops vs (fun j => decide (j ≠ k)) ((List.range (i - m)).map (· + m)) a)) ∧
      K (Proofs.Ytkabpnchfhkhgaa.puts ops vs (fun j => decide (j ≠ k)) ((List.range (n - m)).map (· + m)) a)
  | [], m, a, hl, hmn, hns, h => by
    have hn : n ≤ m := by
      have := congrArg List.length hl
      simp at this
      omega
    refine ⟨fun _ => undef, fun i o hi hin _ ho => by omega, ?_⟩
    rw [Nat.sub_eq_zero_of_le hn]
    exact h
  | o :: r, m, a, hl, hmn, hns, h => by
    have hn : m < n := by
      have := congrArg List.length hl
      simp at this
      omega
    have hdrop : (ops.toList.take n).drop m = ops[m]'(by omega) :: (ops.toList.take n).drop (m + 1) := by
      rw [List.drop_eq_getElem_cons (by simp; omega)]
      simp
    rw [hl] at hdrop
    obtain ⟨e1, e2⟩ := List.cons.inj hdrop
    have hon : ops[m]? = some o := by rw [Array.getElem?_eq_getElem (by omega), e1]
    have hr : ∀ j, m < j → (List.range (j - m)).map (· + m) = m :: (List.range (j - (m + 1))).map (· + (m + 1)) := by
      intro j hj
      rw [show j - m = (j - (m + 1)) + 1 by omega, List.range_succ_eq_map, List.map_cons, List.map_map]
      congr 1
      · omega
      · apply List.map_congr_left
        intro x _
        show x + 1 + m = x + (m + 1)
        omega
    unfold PlanA at h
    by_cases hmk : m = k
    · rw [if_pos hmk] at h
      obtain ⟨vs, h1, h2⟩ := PlanA.take n r (m + 1) a e2.symm (by omega) hns h
      have first : ∀ j, m < j → Proofs.Ytkabpnchfhkhgaa.puts ops vs (fun j => decide (j ≠ k)) ((List.range (j - m)).map (· + m)) a = Proofs.Ytkabpnchfhkhgaa.puts ops vs (fun j => decide (j ≠ k)) ((List.range (j - (m + 1))).map (· + (m + 1))) a := by
        intro j hj
        rw [hr j hj]
        show Proofs.Ytkabpnchfhkhgaa.puts ops vs _ _ (if decide (m ≠ k) = true then _ else a) = _
        rw [if_neg (by simp [hmk])]
      refine ⟨vs, fun i o' hi hin hik ho => ?_, ?_⟩
      · rw [first i (by omega)]
        exact h1 i o' (by omega) hin hik ho
      · rw [first n hn]
        exact h2
    · rw [if_neg hmk] at h
      obtain ⟨v, hv, h⟩ := h
      obtain ⟨vs, h1, h2⟩ := PlanA.take n r (m + 1) (a.put o.dst v) e2.symm (by omega) hns h
      let vs' : Nat → Value := fun k => if k = m then v else vs k
      have same : ∀ (j : Nat) (b : Act), Proofs.Ytkabpnchfhkhgaa.puts ops vs' (fun j => decide (j ≠ k)) ((List.range j).map (· + (m + 1))) b = Proofs.Ytkabpnchfhkhgaa.puts ops vs (fun j => decide (j ≠ k)) ((List.range j).map (· + (m + 1))) b := by
        intro j b
        refine puts_vals _ _ (fun k hk => ?_)
        obtain ⟨x, _, rfl⟩ := List.mem_map.1 hk
        exact if_neg (by omega)
      have first : ∀ j, m < j → Proofs.Ytkabpnchfhkhgaa.puts ops vs' (fun j => decide (j ≠ k)) ((List.range (j - m)).map (· + m)) a = Proofs.Ytkabpnchfhkhgaa.puts ops vs (fun j => decide (j ≠ k)) ((List.range (j - (m + 1))).map (· + (m + 1))) (a.put o.dst v) := by
        intro j hj
        rw [hr j hj]
        show Proofs.Ytkabpnchfhkhgaa.puts ops vs' _ _ (if decide (m ≠ k) = true then a.put ((ops[m]?).bind (·.dst)) (vs' m) else a) = _
        rw [if_pos (by simp [hmk]), hon, show vs' m = v from if_pos rfl]
        exact same _ _
      refine ⟨vs', fun i o' hi hin hik ho => ?_, ?_⟩
      · by_cases him : i = m
        · subst him
          rw [hon] at ho; cases ho
          rw [Nat.sub_self, show vs' i = v from if_pos rfl]
          exact hv
        · rw [first i (by omega), show vs' i = vs i from if_neg him]
          exact h1 i o' (by omega) hin hik ho
      · rw [first n hn]
        exact h2

/-- The k-th of the first n puts into d, at which none of the others looks, and into which none of them puts. -/
def aloneAt (ops : Array Oper) (n k : Nat) (d : Tmp) : Bool :=
  decide (k < n) && (match ops[k]? with | some o => decide (o.dst = some d) && decide (o.guard = none) | none => false) &&
  (List.range n).all fun i => decide (i = k) || match ops[i]? with | some o => decide (d ∉ o.looksAt ops) && decide (o.dst ≠ some d) | none => true

def RunsAt (P : Program) (ops : Array Oper) (k : Nat) (zs : Array Value) (T : TypeId) : Prop :=
  ∀ (a : Act) (w : World), match ops[k]? with
    | some o => (execOp a.eval o).run P w = .ok (.value (.pointer (some ⟨w.heap.size, 0, none⟩))) (w.alloc (.cells zs T))
    | none => True

theorem wp_region_planA {id : Nat} {a : Act} {w : World} (n k : Nat) (d : Tmp) (zs : Array Value) (T : TypeId) (S : World → Prop) (E : Nat → World → Prop) (hm : P.follows .mixedOrders = true) (hok : planOkT .any ops n = true) (hsel : Region.noSelect ops = true)
    (hseq : Region.seqB .any ops (ops.size - n) n (heads ops.size n) = true) (hal : aloneAt ops n k d = true)
    (hrun0 : RunsAt P ops k zs T)
    (hst : Stable S) (hE : ∀ b, Stable (E b)) (hnew : ∀ w, S w → E w.heap.size (w.alloc (.cells zs T))) (hS : S w.drew)
    (h : PlanA P ops S (fun a' => ∀ b w', S w' → E b w' → wpList P ops Q (ops.toList.drop n) (a'.put (some d) (.pointer (some ⟨b, 0, none⟩))) w') k 0 (ops.toList.take n) a) : (Code.region id ops true).wp P Q a w := by
  have hns := planOkT_le hok
  have hs := Region.noSelect_spec hsel
  obtain ⟨vs, h1, h2⟩ := PlanA.take n (ops.toList.take n) 0 a rfl (Nat.zero_le _) hns h
  simp only [Nat.sub_zero, map_zero] at h1 h2
  unfold aloneAt at hal
  rw [Bool.and_eq_true, Bool.and_eq_true, decide_eq_true_eq] at hal
  obtain ⟨⟨hkn, hko⟩, hoth⟩ := hal
  obtain ⟨ok, hok1⟩ : ∃ o, ops[k]? = some o := ⟨ops[k]'(by omega), Array.getElem?_eq_getElem (by omega)⟩
  simp only [hok1, Bool.and_eq_true, decide_eq_true_eq] at hko
  have hrun : ∀ o, ops[k]? = some o → ∀ (a : Act) w, (execOp a.eval o).run P w = .ok (.value (.pointer (some ⟨w.heap.size, 0, none⟩))) (w.alloc (.cells zs T)) := by
    intro o ho a w
    have := hrun0 a w
    rw [ho] at this
    exact this
  have hfar : ∀ i o, i < n → i ≠ k → ops[i]? = some o → d ∉ o.looksAt ops ∧ o.dst ≠ some d := by
    intro i o hi hik ho
    have := List.all_eq_true.1 hoth i (List.mem_range.2 hi)
    simpa [ho, hik] using this
  refine wp_region_any hm ?_
  have hz : ∀ k, (Array.replicate ops.size false).getD k false = false := fun k => by
    rw [Array.getD_eq_getD_getElem?, Array.getElem?_replicate]; split <;> rfl
  have hlen : (ops.toList.drop n).length = ops.size - n := by simp
  -- the frame where an operation looks does not hang on the block
  have dst_other : ∀ i j, i < n → i ≠ k → (ops[i]?).bind (·.dst) = some j → j ≠ d := by
    intro i j hi hik hj
    obtain ⟨o, ho⟩ : ∃ o, ops[i]? = some o := ⟨ops[i]'(by omega), Array.getElem?_eq_getElem (by omega)⟩
    rw [ho, Option.bind_some] at hj
    exact fun e => (hfar i o hi hik ho).2 (by rw [hj, e])
  have frame : ∀ (vs' : Nat → Value) (i : Nat) (o : Oper), i < n → i ≠ k → ops[i]? = some o → (∀ j, j ≠ k → vs' j = vs j) → ∀ (X : World → Prop), Stable X →
      Does P ops (fun w => S w ∧ X w) o (vs' i) (Proofs.Ytkabpnchfhkhgaa.puts ops vs' (fun _ => true) (List.range i) a) := by
    intro vs' i o hi hik ho hv X hX
    rw [hv i hik]
    refine Does.of_looks (a := Proofs.Ytkabpnchfhkhgaa.puts ops vs (fun j => decide (j ≠ k)) (List.range i) a) (fun cs b => hs i o cs b ho) ?_ ((h1 i o (Nat.zero_le _) hi hik ho).does hst hX)
    intro t ht
    have htd : t ≠ d := fun e => (hfar i o hi hik ho).1 (e ▸ ht)
    have hval : Proofs.Ytkabpnchfhkhgaa.puts ops vs (fun j => decide (j ≠ k)) (List.range i) a = Proofs.Ytkabpnchfhkhgaa.puts ops vs' (fun j => decide (j ≠ k)) (List.range i) a := by
      have : ∀ (ks : List Nat) (b : Act), Proofs.Ytkabpnchfhkhgaa.puts ops vs (fun j => decide (j ≠ k)) ks b = Proofs.Ytkabpnchfhkhgaa.puts ops vs' (fun j => decide (j ≠ k)) ks b := by
        intro ks
        induction ks with
        | nil => intro b; rfl
        | cons x xs ih =>
          intro b
          unfold Proofs.Ytkabpnchfhkhgaa.puts
          by_cases hx : x = k
          · rw [if_neg (by simp [hx]), if_neg (by simp [hx])]; exact ih b
          · rw [if_pos (by simp [hx]), if_pos (by simp [hx]), hv x hx]; exact ih _
      exact this _ _
    rw [hval]
    refine puts_get _ _ _ (fun j hj hdst => ?_) rfl rfl
    by_cases hjk : j = k
    · subst hjk
      rw [hok1, Option.bind_some, hko.1] at hdst
      injection hdst with e
      exact absurd e.symm htd
    · simp [hjk]
  have tail : ∀ (b : Nat) (vs' : Nat → Value), (∀ j, j ≠ k → vs' j = vs j) → vs' k = .pointer (some ⟨b, 0, none⟩) →
      Proofs.Ytkabpnchfhkhgaa.puts ops vs' (fun _ => true) (List.range n) a = (Proofs.Ytkabpnchfhkhgaa.puts ops vs (fun j => decide (j ≠ k)) (List.range n) a).put (some d) (.pointer (some ⟨b, 0, none⟩)) := by
    intro b vs' hv hk
    have e1 := puts_more (ops := ops) (vs := vs') (m := fun j => decide (j ≠ k)) (m' := fun _ => true) (i := k) (List.range n) a List.pairwise_lt_range (List.mem_range.2 hkn) (by simp) rfl (fun j hj => by simp [hj])
      (fun j hj hkj _ t ht hjt => by
        have hj := List.mem_range.1 hj
        rw [hok1, Option.bind_some, hko.1] at ht
        injection ht with e
        exact dst_other j t hj (by omega) hjt e.symm)
    rw [e1, hok1, Option.bind_some, hko.1, hk]
    congr 1
    have : ∀ (ks : List Nat) (c : Act), Proofs.Ytkabpnchfhkhgaa.puts ops vs' (fun j => decide (j ≠ k)) ks c = Proofs.Ytkabpnchfhkhgaa.puts ops vs (fun j => decide (j ≠ k)) ks c := by
      intro ks
      induction ks with
      | nil => intro c; rfl
      | cons x xs ih =>
        intro c
        unfold Proofs.Ytkabpnchfhkhgaa.puts
        by_cases hx : x = k
        · rw [if_neg (by simp [hx]), if_neg (by simp [hx])]; exact ih c
        · rw [if_pos (by simp [hx]), if_pos (by simp [hx]), hv x hx]; exact ih _
    exact this _ _
  have h3 := wpAny_planG (Q := Q) (S := fun w => S w ∧ True) (n := n) (g := ops.size - n) (fun j => decide (j = k)) (fun l => l.getD k false = false) hok hsel vs a
    (fun i o hin hsk ho => frame vs i o hin (by simpa using hsk) ho (fun _ _ => rfl) (fun _ => True) (fun _ _ _ _ => trivial))
    (fun listed w' hsz hl hinv _ => by rw [hl k] at hinv; simp [hkn] at hinv)
    (fun l i hsk hinv => by
      have hik : i ≠ k := by simpa using hsk
      show (l.setIfInBounds i true).getD k false = false
      rw [getD_set_ne false hik]
      exact hinv)
    (fun c listed w1 i o ho hin hsk hinv hsz h0 hcl hall htl hle hSw => by
      have hik : i = k := by simpa using hsk
      subst hik
      rw [hok1] at ho; cases ho
      refine wpOp_value hok1 (by unfold Region.wanted; rw [hko.2]) (hrun _ hok1 _ w1) ?_
      rw [hko.1]
      let vs' : Nat → Value := fun j => if j = i then .pointer (some ⟨w1.heap.size, 0, none⟩) else vs j
      have hv : ∀ j, j ≠ i → vs' j = vs j := fun j hj => if_neg hj
      have hvi : vs' i = .pointer (some ⟨w1.heap.size, 0, none⟩) := if_pos rfl
      have hm' : ∀ j, j ≠ i → (listed.setIfInBounds i true).getD j false = listed.getD j false := fun j hj => getD_set_ne false (Ne.symm hj)
      have hmi : (listed.setIfInBounds i true).getD i false = true := by
        have : i < listed.size := by omega
        simp [this]
      have e2 : (Proofs.Ytkabpnchfhkhgaa.puts ops vs (fun j => listed.getD j false) (List.range n) a).put (some d) (.pointer (some ⟨w1.heap.size, 0, none⟩)) = Proofs.Ytkabpnchfhkhgaa.puts ops vs' (fun j => (listed.setIfInBounds i true).getD j false) (List.range n) a := by
        have e1 := puts_more (ops := ops) (vs := vs') (m := fun j => listed.getD j false) (m' := fun j => (listed.setIfInBounds i true).getD j false) (i := i) (List.range n) a
          List.pairwise_lt_range (List.mem_range.2 hkn) h0 hmi hm' (fun j hj hij _ t ht hjt => by
            have hj := List.mem_range.1 hj
            rw [hok1, Option.bind_some, hko.1] at ht
            injection ht with e
            exact dst_other j t hj (by omega) hjt e.symm)
        rw [e1, hok1, Option.bind_some, hko.1, hvi]
        congr 1
        have : ∀ (ks : List Nat) (c : Act), Proofs.Ytkabpnchfhkhgaa.puts ops vs (fun j => listed.getD j false) ks c = Proofs.Ytkabpnchfhkhgaa.puts ops vs' (fun j => listed.getD j false) ks c := by
          intro ks
          induction ks with
          | nil => intro c; rfl
          | cons x xs ih =>
            intro c
            unfold Proofs.Ytkabpnchfhkhgaa.puts
            by_cases hx : x = i
            · subst hx; rw [h0]; exact ih c
            · rw [hv x hx]; exact ih _
        exact this _ _
      rw [e2]
      have hbel : RowKit.Below w1.heap.size w1 (w1.alloc (.cells zs T)) := (RowKit.Below.refl _ _).alloc (Nat.le_refl _) _
      refine wpAny_planG (Q := Q) (S := fun w => S w ∧ E w1.heap.size w) (n := n) (g := ops.size - n) (fun j => decide (j = i)) (fun l => l.getD i false = true) hok hsel vs' a
        (fun j o hjn hsk ho => frame vs' j o hjn (by simpa using hsk) ho hv (E w1.heap.size) (hE _))
        (fun listed w' hsz hl hinv hSE => ?_) (fun l j hsk hinv => getD_set_true hinv) (fun c l w2 j o ho hjn hsk hinv hsz hj0 => by
          have hji : j = i := by simpa using hsk
          subst hji
          rw [hinv] at hj0; cases hj0) c _ _ (by simpa using hsz) hmi ?_ ?_ ?_ ⟨hst _ _ hSw.1 hbel, hnew w1 hSw.1⟩
      · rw [tail w1.heap.size vs' hv hvi, heads_of hns hsz hl, ← hlen]
        exact wpAny_of_seq (ops.toList.drop n) n _ _ _ (fun j => by simp) (by rw [hlen]; exact hseq) (h2 w1.heap.size w' hSE.1 hSE.2)
      · intro j p hp hj e he hb
        by_cases hji : j = i
        · subst hji
          rw [hok1] at hp; cases hp
          exact getD_set_true (hall e he hb)
        · rw [hm' j hji] at hj
          exact getD_set_true (hcl j p hp hj e he hb)
      · intro j hj
        rw [hm' j (by omega)]
        exact htl j hj
      · have hlen : ((List.range n).filter fun k => !(listed.setIfInBounds i true).getD k false).length + 1 = ((List.range n).filter fun k => !listed.getD k false).length := by
          refine filt_one (i := i) _ List.nodup_range (List.mem_range.2 hin) (fun k hk => ?_) (by simpa using h0) (by simpa using hmi)
          rw [hm' k hk]
        omega)
    n (Array.replicate ops.size false) w.drew (by simp) (hz k) (fun i o _ hl => by rw [hz] at hl; cases hl) (fun k _ => hz k) (by
      rw [List.filter_eq_self.2 (fun k _ => by rw [hz]; rfl)]
      simp) ⟨hS, trivial⟩
  have h4 : Proofs.Ytkabpnchfhkhgaa.puts ops vs (fun k => (Array.replicate ops.size false).getD k false) (List.range n) a = a := by
    have : ∀ (ks : List Nat), Proofs.Ytkabpnchfhkhgaa.puts ops vs (fun k => (Array.replicate ops.size false).getD k false) ks a = a := by
      intro ks
      induction ks with
      | nil => rfl
      | cons x xs ih =>
        unfold Proofs.Ytkabpnchfhkhgaa.puts
        rw [hz]
        exact ih
    exact this _
  rw [h4] at h3
  rw [show n + (ops.size - n) = ops.size by omega] at h3
  exact h3

theorem PlanA.done {K : Act → Prop} {k m : Nat} {a : Act} (h : K a) : PlanA P ops S K k m [] a := h
theorem PlanA.skip {K : Act → Prop} {k m : Nat} {o : Oper} {r : List Oper} {a : Act} (hm : m = k) (h : PlanA P ops S K k (m + 1) r a) : PlanA P ops S K k m (o :: r) a := by
  unfold PlanA; rw [if_pos hm]; exact h
theorem PlanA.no {K : Act → Prop} {k m : Nat} {o : Oper} {r : List Oper} {a : Act} (hm : m ≠ k) (hw : Region.wanted o (yielded ops a.tmps) = false) (h : PlanA P ops S K k (m + 1) r (a.put o.dst undef)) : PlanA P ops S K k m (o :: r) a := by
  unfold PlanA; rw [if_neg hm]; exact ⟨undef, .inr ⟨hw, rfl⟩, h⟩
theorem PlanA.val {K : Act → Prop} {k m : Nat} {o : Oper} {r : List Oper} {a : Act} {v : Value} (hm : m ≠ k) (hw : Region.wanted o (yielded ops a.tmps) = true) (hv : ∀ w, S w → (execOp a.eval o).run P w = .ok (.value v) w)
    (h : PlanA P ops S K k (m + 1) r (a.put o.dst v)) : PlanA P ops S K k m (o :: r) a := by
  unfold PlanA; rw [if_neg hm]; exact ⟨v, .inl ⟨hw, fun w hS => by rw [hv w hS]; exact ⟨rfl, RowKit.Below.refl _ _⟩⟩, h⟩
theorem PlanA.call {K : Act → Prop} {k m : Nat} {o : Oper} {r : List Oper} {a : Act} {v : Value} {f : FuncId} {args : Array Value} (hm : m ≠ k) (hw : Region.wanted o (yielded ops a.tmps) = true)
    (hv : ∀ w, S w → (execOp a.eval o).run P w = .ok (.enter f args) w) (hc : ∀ w, S w → Calls P f args w fun e w' => e = .returned v ∧ RowKit.Below w.heap.size w w')
    (h : PlanA P ops S K k (m + 1) r (a.put o.dst v)) : PlanA P ops S K k m (o :: r) a := by
  unfold PlanA; rw [if_neg hm]; exact ⟨v, .inl ⟨hw, fun w hS => by rw [hv w hS]; exact ⟨rfl, hc w hS⟩⟩, h⟩
end
end Go.Proofs.Ytkabpnchfhkhgaa
set_option linter.unusedSimpArgs false
set_option linter.unusedVariables false
namespace Go.Proofs.Ytkabpnchfhkhgaa
open Go

section
variable {P : Program} {ops : Array Oper} {Q : Exit → Act → World → Prop} {md : Region.Mode} {S : World → Prop}

/-- As planOkT, what is waited for so many steps far. -/
def planOkD (md : Region.Mode) (ops : Array Oper) (n dd : Nat) : Bool :=
  decide (n ≤ ops.size) && ((List.range n).all fun i => match ops[i]? with
    | none => true
    | some o => (o.after.all fun e => !Region.binds md e || decide (e.on < i)) &&
      (List.range i).all fun j => (o.after.any fun e => Region.binds md e && e.on == j) || (match ops[j]? with | some p => p.apart ops o | none => true)) &&
  (List.range (ops.size - n)).all fun d => match ops[n + d]? with
    | none => true
    | some o => (List.range n).all fun j => (anc md ops dd (n + d)).contains j
theorem planOkD_spec {n dd : Nat} (h : planOkD md ops n dd = true) {i : Nat} {o : Oper} (ho : ops[i]? = some o) (hlt : i < n) :
    (∀ e ∈ o.after, Region.binds md e = true → e.on < i) ∧ ∀ j p, j < i → ops[j]? = some p → (∀ e ∈ o.after, Region.binds md e = true → e.on ≠ j) → p.apart ops o = true := by
  unfold planOkD at h
  simp only [Bool.and_eq_true] at h
  have h1 := List.all_eq_true.1 h.1.2 i (List.mem_range.2 hlt)
  simp only [ho, Bool.and_eq_true] at h1
  obtain ⟨h1, h2⟩ := h1
  refine ⟨fun e he hb => ?_, fun j p hj hp hno => ?_⟩
  · have := Array.all_eq_true_iff_forall_mem.1 h1 e he
    simpa [hb] using this
  · have := List.all_eq_true.1 h2 j (List.mem_range.2 hj)
    simp only [hp, Bool.or_eq_true] at this
    rcases this with this | this
    · obtain ⟨n, hn, hb⟩ := Array.any_eq_true.1 this
      simp only [Bool.and_eq_true, beq_iff_eq] at hb
      exact absurd hb.2 (hno _ (Array.getElem_mem hn) hb.1)
    · exact this
theorem planOkD_tail {n dd : Nat} (h : planOkD md ops n dd = true) {i : Nat} {o : Oper} (ho : ops[i]? = some o) (hle : n ≤ i) {j : Nat} (hj : j < n) : j ∈ anc md ops dd i := by
  have hlt : i < ops.size := (Array.getElem?_eq_some_iff.1 ho).1
  unfold planOkD at h
  simp only [Bool.and_eq_true] at h
  have h1 := List.all_eq_true.1 h.2 (i - n) (List.mem_range.2 (by omega))
  rw [show n + (i - n) = i by omega, ho] at h1
  have h2 := List.all_eq_true.1 h1 j (List.mem_range.2 hj)
  simpa using h2
theorem planOkD_le {n dd : Nat} (h : planOkD md ops n dd = true) : n ≤ ops.size := by
  unfold planOkD at h
  simp only [Bool.and_eq_true, decide_eq_true_eq] at h
  exact h.1.1
/-- What an operation has yielded: the value, and from where to where its memory goes. -/
structure Gt where
  v : Value
  lo : Nat
  hi : Nat
/-- What an operation's run comes to: a value of the kind; nothing turns that was there. -/
def OneR (P : Program) (w : World) (Ψ : Gt → World → Prop) : Result Next → Prop
  | .ok (.value u) w' => RowKit.Below w.heap.size w w' ∧ Ψ ⟨u, w.heap.size, w'.heap.size⟩ w'
  | .ok (.enter f args) w' => w' = w ∧ Calls P f args w fun e w'' => ∃ v, e = .returned v ∧ RowKit.Below w.heap.size w w'' ∧ Ψ ⟨v, w.heap.size, w''.heap.size⟩ w''
  | _ => False
def DoesR (P : Program) (ops : Array Oper) (S : World → Prop) (o : Oper) (Kn : World → Prop) (Ψ : Gt → World → Prop) (a : Act) : Prop :=
  (Region.wanted o (yielded ops a.tmps) = true ∧ ∀ w, S w → Kn w → OneR P w Ψ ((execOp a.eval o).run P w)) ∨
  (Region.wanted o (yielded ops a.tmps) = false ∧ ∀ w, S w → Kn w → Ψ ⟨undef, w.heap.size, w.heap.size⟩ w)

theorem DoesR.wpOp {i : Nat} {o : Oper} {a : Act} {Kn : World → Prop} {Ψ : Gt → World → Prop} (hi : ops[i]? = some o) (hd : DoesR P ops S o Kn Ψ a)
    {K : Act → World → Prop} {w : World} (hS : S w) (hK : Kn w) (h : ∀ v w', RowKit.Below w.heap.size w w' → Ψ ⟨v, w.heap.size, w'.heap.size⟩ w' → K (a.put o.dst v) w') : Go.wpOp P ops Q i K a w := by
  unfold Go.wpOp
  simp only [hi]
  rcases hd with ⟨hw, hv⟩ | ⟨hw, hv⟩
  · simp only [hw, if_true]
    refine .inl ?_
    have h1 := hv w hS hK
    unfold Oper.wp
    generalize (execOp a.eval o).run P w = r at *
    cases r with
    | ok n w' =>
      cases n <;> simp only [OneR] at h1
      case value u => exact h u w' h1.1 h1.2
      case enter f args =>
        obtain ⟨rfl, h1⟩ := h1
        refine Calls.mono h1 fun e w'' he => ?_
        obtain ⟨v, rfl, h2, h3⟩ := he
        exact h v w'' h2 h3
    | halt x w' => simp only [OneR] at h1
  · simp only [hw, Bool.false_eq_true, if_false]
    exact h _ w (RowKit.Below.refl _ _) (hv w hS hK)
theorem DoesR.of_looks {o : Oper} {a a' : Act} {Kn : World → Prop} {Ψ : Gt → World → Prop} (hs : ∀ cs b, o.op ≠ .select cs b) (h : ∀ t ∈ o.looksAt ops, a'.tmps[t]? = a.tmps[t]?) (hd : DoesR P ops S o Kn Ψ a) : DoesR P ops S o Kn Ψ a' := by
  have he : execOp a'.eval o = execOp a.eval o := execOp_congr o hs fun x hx => by
    cases x with
    | tmp t =>
      have := h t (List.mem_append_left _ (List.mem_filterMap.2 ⟨.tmp t, by simpa using hx, rfl⟩))
      simp only [Act.eval, Array.getD_eq_getD_getElem?, this]
    | _ => rfl
  have hw : Region.wanted o (yielded ops a'.tmps) = Region.wanted o (yielded ops a.tmps) := by
    unfold Region.wanted
    cases hg : o.guard with
    | none => rfl
    | some gw =>
      obtain ⟨g, want⟩ := gw
      have hy : yielded ops a'.tmps g = yielded ops a.tmps g := by
        unfold yielded
        cases ht : (ops[g]?).bind (·.dst) with
        | none => rfl
        | some t =>
          have := h t (List.mem_append_right _ (by simp [hg, ht]))
          simp only [Option.bind_some, this]
      simp only [hy]
  unfold DoesR at *
  rw [he, hw]
  exact hd
/-- Whether an operation looks at what the j-th one puts. -/
def depB (ops : Array Oper) (o : Oper) (j : Nat) : Bool := match (ops[j]?).bind (·.dst) with | some t => decide (t ∈ o.looksAt ops) | none => false
theorem puts_off {vs vs' : Nat → Value} {m : Nat → Bool} : ∀ (ks : List Nat) (a : Act), (∀ k ∈ ks, m k = true → vs' k = vs k) → puts ops vs' m ks a = puts ops vs m ks a
  | [], _, _ => rfl
  | k :: ks, a, h => by
    unfold puts
    cases hm : m k
    · exact puts_off ks _ (fun j hj => h j (List.mem_cons_of_mem _ hj))
    · rw [h k (by simp) hm]
      exact puts_off ks _ (fun j hj => h j (List.mem_cons_of_mem _ hj))
theorem puts_all (vs : Nat → Value) (n i : Nat) (a : Act) (h : i ≤ n) : puts ops vs (fun _ => true) (List.range i) a = puts ops vs (fun k => decide (k < i)) (List.range n) a := by
  obtain ⟨d, hd⟩ : ∃ d, n = i + d := ⟨n - i, by omega⟩
  have : ∀ d, puts ops vs (fun _ => true) (List.range i) a = puts ops vs (fun k => decide (k < i)) (List.range (i + d)) a := by
    intro d
    induction d with
    | zero => exact puts_congr _ _ (fun k hk => by simp [List.mem_range.1 hk])
    | succ n ihn =>
      rw [ihn, ← Nat.add_assoc, List.range_succ]
      have happ : ∀ (l1 l2 : List Nat) (m : Nat → Bool) (b : Act), puts ops vs m (l1 ++ l2) b = puts ops vs m l2 (puts ops vs m l1 b) := by
        intro l1
        induction l1 with
        | nil => intros; rfl
        | cons x xs ihx => intro l2 m b; exact ihx l2 m _
      rw [happ]
      have : decide (i + n < i) = false := by simp
      simp [puts, this]
  rw [hd]; exact this d
/-- What is known of an operation ahead: the value that it yields; or which function of others' values it is; or of which kind it is: some such value, what may be said of it without a world, and in a world. -/
inductive KdR where
  | val (v : Value)
  | fn (ds : List Nat) (f : List Value → Value)
  | any (v0 : Value) (ok : Value → Prop) (phi : Gt → World → Prop)
def valsOf (ds : List Nat) (vs : Nat → Gt) : List Value := ds.map fun d => (vs d).v
def KdR.phi (vs : Nat → Gt) : KdR → Gt → World → Prop
  | .val v => fun x _ => x.v = v
  | .fn ds f => fun x _ => x.v = f (valsOf ds vs)
  | .any _ _ p => p
def KdR.ok (vs : Nat → Gt) : KdR → Value → Prop
  | .val v => fun x => x = v
  | .fn ds f => fun x => x = f (valsOf ds vs)
  | .any _ ok _ => ok
def KdR.v0 (vs : Nat → Gt) : KdR → Value
  | .val v => v
  | .fn ds f => f (valsOf ds vs)
  | .any v _ _ => v
def KdR.Fine : KdR → Prop
  | .val _ => True
  | .fn _ _ => True
  | .any v0 ok p => ok v0 ∧ (∀ x, Stable (p x)) ∧ ∀ x w, p x w → ok x.v
def KdR.deps : KdR → List Nat
  | .fn ds _ => ds
  | _ => []
theorem KdR.Fine.st {k : KdR} (h : k.Fine) : ∀ vs x, Stable (k.phi vs x) := by
  cases k with
  | val v => exact fun vs x W w1 h _ => h
  | fn ds f => exact fun vs x W w1 h _ => h
  | any v0 ok p => exact fun _ => h.2.1
theorem KdR.Fine.ok {k : KdR} (h : k.Fine) : ∀ vs x w, k.phi vs x w → k.ok vs x.v := by
  cases k with
  | val v => exact fun vs x w h => h
  | fn ds f => exact fun vs x w h => h
  | any v0 ok p => exact fun _ => h.2.2
theorem KdR.Fine.v0 {k : KdR} (h : k.Fine) (vs : Nat → Gt) : k.ok vs (k.v0 vs) := by
  cases k with
  | val v => rfl
  | fn ds f => rfl
  | any v0 ok p => exact h.1
theorem valsOf_congr {vs vs' : Nat → Gt} {ds : List Nat} (h : ∀ d ∈ ds, vs' d = vs d) : valsOf ds vs' = valsOf ds vs := List.map_congr_left fun d hd => by rw [h d hd]
theorem KdR.phi_congr {k : KdR} {vs vs' : Nat → Gt} (h : ∀ d ∈ k.deps, vs' d = vs d) : k.phi vs' = k.phi vs := by
  cases k with
  | val v => rfl
  | fn ds f =>
    have e : valsOf ds vs' = valsOf ds vs := valsOf_congr h
    show (fun (x : Gt) (_ : World) => x.v = f (valsOf ds vs')) = fun x _ => x.v = f (valsOf ds vs)
    rw [e]
  | any v0 ok p => rfl
theorem KdR.ok_congr {k : KdR} {vs vs' : Nat → Gt} (h : ∀ d ∈ k.deps, vs' d = vs d) : k.ok vs' = k.ok vs := by
  cases k with
  | val v => rfl
  | fn ds f =>
    have e : valsOf ds vs' = valsOf ds vs := valsOf_congr h
    show (fun x : Value => x = f (valsOf ds vs')) = fun x => x = f (valsOf ds vs)
    rw [e]
  | any v0 ok p => rfl
def phiK (KS : List KdR) (i : Nat) (vs : Nat → Gt) : Gt → World → Prop := match KS[i]? with
  | some k => k.phi vs
  | none => fun _ _ => True
def okK (KS : List KdR) (i : Nat) (vs : Nat → Gt) : Prop := match KS[i]? with
  | some k => k.ok vs (vs i).v
  | none => True
/-- Functions are of what their operations look at. -/
def dsOk (ops : Array Oper) (KS : List KdR) : Bool := (List.range KS.length).all fun i => match KS[i]? with
  | some k => k.deps.all fun d => decide (d < i) && (match ops[i]? with | some o => depB ops o d | none => false)
  | none => true
theorem dsOk_spec {KS : List KdR} (h : dsOk ops KS = true) {i : Nat} {k : KdR} (hk : KS[i]? = some k) : ∀ d ∈ k.deps, d < i ∧ ∃ o, ops[i]? = some o ∧ depB ops o d = true := by
  intro d hd
  have h1 := List.all_eq_true.1 h i (List.mem_range.2 (List.getElem?_eq_some_iff.1 hk).1)
  rw [hk] at h1
  have h2 := List.all_eq_true.1 h1 d hd
  rw [Bool.and_eq_true, decide_eq_true_eq] at h2
  refine ⟨h2.1, ?_⟩
  cases ho : ops[i]? with
  | none => rw [ho] at h2; cases h2.2
  | some o => rw [ho] at h2; exact ⟨o, rfl, h2.2⟩
theorem phiK_congr {KS : List KdR} (hds : dsOk ops KS = true) {i : Nat} {vs vs' : Nat → Gt} (h : ∀ d o, d < i → ops[i]? = some o → depB ops o d = true → vs' d = vs d) : phiK KS i vs' = phiK KS i vs := by
  unfold phiK
  cases hk : KS[i]? with
  | none => rfl
  | some k =>
    show k.phi vs' = k.phi vs
    refine KdR.phi_congr fun d hd => ?_
    obtain ⟨h1, o, ho, h2⟩ := dsOk_spec hds hk d hd
    exact h d o h1 ho h2
/-- What stands in a world, of what has been yielded. -/
structure GotR (S : World → Prop) (KS : List KdR) (N0 n : Nat) (m : Nat → Bool) (vs : Nat → Gt) (w : World) : Prop where
  s : S w
  n0 : N0 ≤ w.heap.size
  each : ∀ i, i < n → m i = true → phiK KS i vs (vs i) w ∧ N0 ≤ (vs i).lo ∧ (vs i).lo ≤ (vs i).hi ∧ (vs i).hi ≤ w.heap.size
  apart : ∀ i j, i < n → j < n → m i = true → m j = true → i ≠ j → (vs i).hi ≤ (vs j).lo ∨ (vs j).hi ≤ (vs i).lo
/-- Values for all, that are those that have been yielded. -/
theorem fillR {KS : List KdR} (hds : dsOk ops KS = true) (hF : ∀ k ∈ KS, k.Fine) {m : Nat → Bool} {vs : Nat → Gt} {n : Nat} (hm : ∀ j d o, d < j → ops[j]? = some o → m j = true → depB ops o d = true → m d = true) (hok : ∀ j, j < n → m j = true → okK KS j vs) :
    ∀ k, k ≤ n → ∃ vs2 : Nat → Gt, (∀ j, m j = true → vs2 j = vs j) ∧ ∀ j, j < k → okK KS j vs2
  | 0, _ => ⟨vs, fun _ _ => rfl, fun _ h => absurd h (Nat.not_lt_zero _)⟩
  | k + 1, hk => by
    obtain ⟨vs2, h1, h2⟩ := fillR hds hF hm hok k (by omega)
    cases hmk : m k with
    | true =>
      refine ⟨vs2, h1, fun j hj => ?_⟩
      by_cases hjk : j = k
      · subst hjk
        have := hok j (by omega) hmk
        unfold okK at this ⊢
        cases hK : KS[j]? with
        | none => trivial
        | some kd =>
          rw [hK] at this
          show kd.ok vs2 (vs2 j).v
          rw [KdR.ok_congr (vs := vs) (fun d hd => ?_), h1 j hmk]
          · exact this
          · obtain ⟨e1, o, ho, e2⟩ := dsOk_spec hds hK d hd
            exact h1 d (hm j d o e1 ho hmk e2)
      · exact h2 j (by omega)
    | false =>
      let x : Gt := match KS[k]? with | some kd => ⟨kd.v0 vs2, 0, 0⟩ | none => ⟨undef, 0, 0⟩
      have hne : ∀ j, j ≠ k → (fun j => if j = k then x else vs2 j) j = vs2 j := fun j hj => if_neg hj
      have hxk : (fun j => if j = k then x else vs2 j) k = x := if_pos rfl
      refine ⟨fun j => if j = k then x else vs2 j, fun j hj => ?_, fun j hj => ?_⟩
      · have : j ≠ k := fun e => by subst e; rw [hmk] at hj; cases hj
        exact (hne j this).trans (h1 j hj)
      · have hcong : ∀ kd, KS[j]? = some kd → kd.ok (fun j => if j = k then x else vs2 j) = kd.ok vs2 := fun kd hK => KdR.ok_congr fun d hd => by
          obtain ⟨e1, _⟩ := dsOk_spec hds hK d hd
          exact hne d (by omega)
        unfold okK
        cases hK : KS[j]? with
        | none => trivial
        | some kd =>
          show kd.ok _ _
          rw [hcong kd hK]
          show kd.ok vs2 (if j = k then x else vs2 j).v
          by_cases hjk : j = k
          · subst hjk
            have hx : x = ⟨kd.v0 vs2, 0, 0⟩ := by show (match KS[j]? with | some kd => (⟨kd.v0 vs2, 0, 0⟩ : Gt) | none => ⟨undef, 0, 0⟩) = _; rw [hK]
            rw [if_pos rfl, hx]
            exact (hF kd (List.mem_of_getElem? hK)).v0 vs2
          · have := h2 j (by omega)
            unfold okK at this
            rw [hK] at this
            rw [if_neg hjk]
            exact this

theorem wpAny_planR {n g N0 dd : Nat} {KS : List KdR} (hok : planOkD md ops n dd = true) (hsel : Region.noSelect ops = true) (hds : dsOk ops KS = true) (a : Act)
    (hst : Stable S) (hF : ∀ k ∈ KS, k.Fine)
    (hD : ∀ i o, i < n → ops[i]? = some o → ∀ vs : Nat → Gt, (∀ j, j < n → okK KS j vs) → DoesR P ops S o (fun w => ∀ j, j < i → depB ops o j = true → phiK KS j vs (vs j) w) (phiK KS i vs) (puts ops (fun k => (vs k).v) (fun _ => true) (List.range i) a))
    (hQ : ∀ (listed : Array Bool) (vs : Nat → Gt) (w' : World), listed.size = ops.size → (∀ k, listed.getD k false = decide (k < n)) → (∀ j, j < n → okK KS j vs) → GotR S KS N0 n (fun _ => true) vs w' → wpAny P md ops Q g listed (puts ops (fun k => (vs k).v) (fun _ => true) (List.range n) a) w') :
    ∀ (c : Nat) (listed : Array Bool) (vs : Nat → Gt) (w : World), listed.size = ops.size →
      (∀ i o, ops[i]? = some o → listed.getD i false = true → ∀ e ∈ o.after, Region.binds md e = true → listed.getD e.on false = true) →
      (∀ k, n ≤ k → listed.getD k false = false) →
      ((List.range n).filter fun k => !listed.getD k false).length = c → GotR S KS N0 n (fun k => listed.getD k false) vs w →
      wpAny P md ops Q (c + g) listed (puts ops (fun k => (vs k).v) (fun k => listed.getD k false) (List.range n) a) w := by
  have hs := Region.noSelect_spec hsel
  have hns := planOkD_le hok
  have hphi : ∀ i vs x, Stable (phiK KS i vs x) := fun i vs x => by
    unfold phiK
    cases hk : KS[i]? with
    | none => exact fun _ _ _ _ => trivial
    | some k => exact (hF k (List.mem_of_getElem? hk)).st vs x
  have hphok : ∀ i vs w, phiK KS i vs (vs i) w → okK KS i vs := fun i vs w h => by
    unfold phiK at h
    unfold okK
    cases hk : KS[i]? with
    | none => trivial
    | some k => rw [hk] at h; exact (hF k (List.mem_of_getElem? hk)).ok vs _ w h
  have hmin : ∀ (listed : Array Bool), listed.size = ops.size → ∀ k, k < n → listed.getD k false = false → ∃ i, i < n ∧ listed.getD i false = false ∧ i ∈ Region.ready md ops listed := by
    intro listed hsz k
    induction k using Nat.strongRecOn with
    | _ k ih =>
      intro hk hl
      by_cases hmem : k ∈ Region.ready md ops listed
      · exact ⟨k, hk, hl, hmem⟩
      · have hko : ops[k]? = some ops[k] := Array.getElem?_eq_getElem (by omega)
        have : ∃ e ∈ ops[k].after, Region.binds md e = true ∧ listed.getD e.on false = false := by
          apply Classical.byContradiction
          intro hno
          refine hmem ?_
          rw [mem_ready]
          refine ⟨by rw [Array.getD_eq_getD_getElem?] at hl ⊢; rw [Array.getElem?_eq_getElem (by omega)] at hl ⊢; exact hl, ops[k], hko, fun e he hb => ?_⟩
          cases hx : listed.getD e.on false with
          | true => rfl
          | false => exact absurd ⟨e, he, hb, hx⟩ hno
        obtain ⟨e, he, hb, hx⟩ := this
        have hlt := (planOkD_spec hok hko hk).1 e he hb
        exact ih e.on hlt (by omega) hx
  -- what an operation that is listed looks at is listed
  have hdep : ∀ (listed : Array Bool), (∀ k, n ≤ k → listed.getD k false = false) → (∀ i o, ops[i]? = some o → listed.getD i false = true → ∀ e ∈ o.after, Region.binds md e = true → listed.getD e.on false = true) →
      ∀ j d o, d < j → ops[j]? = some o → listed.getD j false = true → depB ops o d = true → listed.getD d false = true := by
    intro listed htl hcl j d o hdj ho hl hd
    have hjn : j < n := by
      apply Classical.byContradiction
      intro hno
      rw [htl j (by omega)] at hl
      cases hl
    have hjs : j < ops.size := (Array.getElem?_eq_some_iff.1 ho).1
    obtain ⟨p, hp⟩ : ∃ p, ops[d]? = some p := ⟨ops[d]'(by omega), Array.getElem?_eq_getElem (by omega)⟩
    unfold depB at hd
    rw [hp, Option.bind_some] at hd
    cases hdst : p.dst with
    | none => rw [hdst] at hd; cases hd
    | some t =>
      rw [hdst] at hd
      have hd' : t ∈ o.looksAt ops := by simpa using hd
      by_cases he : ∃ e ∈ o.after, Region.binds md e = true ∧ e.on = d
      · obtain ⟨e, he, hb, rfl⟩ := he
        exact hcl j o ho hl e he hb
      · have := (planOkD_spec hok ho hjn).2 d p hdj hp (fun e he' hb heq => he ⟨e, he', hb, heq⟩)
        exact absurd hd' ((Oper.apart_spec this).1 t hdst)
  intro c
  induction c with
  | zero =>
    intro listed vs w hsz hcl htl hle hG
    have hall : ∀ k, k < n → listed.getD k false = true := by
      intro k hk
      cases hl : listed.getD k false with
      | true => rfl
      | false =>
        have hmf : k ∈ (List.range n).filter fun k => !listed.getD k false := by
          rw [List.mem_filter]
          exact ⟨List.mem_range.2 hk, by rw [hl]; rfl⟩
        rw [List.length_eq_zero_iff.1 hle] at hmf
        cases hmf
    rw [puts_congr (m2 := fun _ => true) (List.range n) a (fun k hk => hall k (List.mem_range.1 hk)), Nat.zero_add]
    refine hQ listed vs w hsz (fun k => ?_) (fun j hj => hphok j vs w (hG.each j hj (hall j hj)).1) ⟨hG.s, hG.n0, fun i hi _ => hG.each i hi (hall i hi), fun i j hi hj _ _ hne => hG.apart i j hi hj (hall i hi) (hall j hj) hne⟩
    by_cases hk : k < n
    · rw [hall k hk]; simp [hk]
    · rw [htl k (by omega)]; simp [hk]
  | succ c ih =>
    intro listed vs0 w hsz hcl htl hle hG0
    obtain ⟨vs, hag, hok0⟩ := fillR hds hF (m := fun k => listed.getD k false) (vs := vs0) (n := n) (hdep listed htl hcl) (fun j hj hl => hphok j vs0 w (hG0.each j hj hl).1) n (Nat.le_refl _)
    have hG : GotR S KS N0 n (fun k => listed.getD k false) vs w := ⟨hG0.s, hG0.n0, fun i hi hl => by
        rw [hag i hl, phiK_congr hds (i := i) (vs := vs0) (fun d o hd ho hdp => hag d (hdep listed htl hcl i d o hd ho hl hdp))]
        exact hG0.each i hi hl, fun i j hi hj hl1 hl2 hne => by rw [hag i hl1, hag j hl2]; exact hG0.apart i j hi hj hl1 hl2 hne⟩
    rw [← puts_off (vs := fun k => (vs0 k).v) (vs' := fun k => (vs k).v) (m := fun k => listed.getD k false) (List.range n) a (fun k _ hk => by show (vs k).v = (vs0 k).v; rw [hag k hk])]
    clear hG0 hag vs0
    rw [show c + 1 + g = (c + g) + 1 by omega]
    have hsome : ∃ k, k < n ∧ listed.getD k false = false := by
      cases hx : (List.range n).filter fun k => !listed.getD k false with
      | nil => rw [hx] at hle; cases hle
      | cons x xs =>
        have hm : x ∈ (List.range n).filter fun k => !listed.getD k false := by rw [hx]; simp
        rw [List.mem_filter] at hm
        exact ⟨x, List.mem_range.1 hm.1, by simpa using hm.2⟩
    obtain ⟨k0, hk0, hl0⟩ := hsome
    refine ⟨fun hr => ?_, fun i hi => ?_⟩
    · obtain ⟨i, _, _, hm⟩ := hmin listed hsz k0 hk0 hl0
      rw [hr] at hm
      cases hm
    obtain ⟨h0, o, ho, hall⟩ := mem_ready.1 hi
    have hin : i < n := by
      apply Classical.byContradiction
      intro hno
      have := anc_listed hcl dd i o ho hall k0 (planOkD_tail hok ho (by omega) hk0)
      rw [hl0] at this
      cases this
    have hlt : i < ops.size := by omega
    have h0' : listed.getD i false = false := by
      rw [Array.getD_eq_getD_getElem?] at h0 ⊢; rw [Array.getElem?_eq_getElem (by omega)] at h0 ⊢; exact h0
    have hap : ∀ k p, ops[k]? = some p → k < n → k ≠ i → (k < i ∧ listed.getD k false = false ∨ i < k ∧ listed.getD k false = true) → p.apart ops o = true ∨ o.apart ops p = true := by
      intro k p hp hkn hki hk
      rcases hk with ⟨hk1, hk2⟩ | ⟨hk1, hk2⟩
      · exact .inl ((planOkD_spec hok ho hin).2 k p hk1 hp (fun e he hb heq => by
          have := hall e he hb
          rw [heq, hk2] at this
          cases this))
      · exact .inr ((planOkD_spec hok hp hkn).2 i o hk1 ho (fun e he hb heq => by
          have := hcl k p hp hk2 e he hb
          rw [heq, h0'] at this
          cases this))
    have hlook : ∀ k p, ops[k]? = some p → k < n → k ≠ i → (k < i ∧ listed.getD k false = false ∨ i < k ∧ listed.getD k false = true) → ∀ t, p.dst = some t → t ∉ o.looksAt ops := by
      intro k p hp hkn hki hk t ht
      rcases hap k p hp hkn hki hk with h | h
      · exact (Oper.apart_spec h).1 t ht
      · exact (Oper.apart_spec h).2.2 t ht
    have hdoes : DoesR P ops S o (fun w => ∀ j, j < i → depB ops o j = true → phiK KS j vs (vs j) w) (phiK KS i vs) (puts ops (fun k => (vs k).v) (fun k => listed.getD k false) (List.range n) a) := by
      refine DoesR.of_looks (fun cs b => hs i o cs b ho) ?_ (hD i o hin ho vs hok0)
      intro t ht
      rw [puts_all _ n i a (by omega)]
      refine puts_get _ _ _ (fun k hk hdst => ?_) rfl rfl
      have hk := List.mem_range.1 hk
      obtain ⟨p, hp⟩ : ∃ p, ops[k]? = some p := ⟨ops[k]'(by omega), Array.getElem?_eq_getElem (by omega)⟩
      simp only [hp, Option.bind_some] at hdst
      by_cases hki : k = i
      · subst hki; simp [h0']
      · cases hl : listed.getD k false with
        | false =>
          by_cases hlt' : k < i
          · exact absurd ht (hlook k p hp hk hki (.inl ⟨hlt', hl⟩) t hdst)
          · simp [hlt']
        | true =>
          by_cases hlt' : k < i
          · simp [hlt']
          · exact absurd ht (hlook k p hp hk hki (.inr ⟨by omega, hl⟩) t hdst)
    have hkn : ∀ j, j < i → depB ops o j = true → phiK KS j vs (vs j) w := by
      intro j hj hd
      obtain ⟨p, hp⟩ : ∃ p, ops[j]? = some p := ⟨ops[j]'(by omega), Array.getElem?_eq_getElem (by omega)⟩
      unfold depB at hd
      rw [hp, Option.bind_some] at hd
      cases hdst : p.dst with
      | none => rw [hdst] at hd; cases hd
      | some t =>
        rw [hdst] at hd
        have hd' : t ∈ o.looksAt ops := by simpa using hd
        cases hl : listed.getD j false with
        | true => exact (hG.each j (by omega) hl).1
        | false => exact absurd hd' (hlook j p hp (by omega) (by omega) (.inl ⟨hj, hl⟩) t hdst)
    refine hdoes.wpOp ho hG.s hkn (fun v w' hb hv => ?_)
    have hm' : ∀ k, k ≠ i → (listed.setIfInBounds i true).getD k false = listed.getD k false := fun k hk => getD_set_ne false (Ne.symm hk)
    have hmi : (listed.setIfInBounds i true).getD i false = true := by
      have : i < listed.size := by omega
      simp [this]
    let vs' : Nat → Gt := fun j => if j = i then ⟨v, w.heap.size, w'.heap.size⟩ else vs j
    have hv' : ∀ j, j ≠ i → vs' j = vs j := fun j hj => if_neg hj
    have hvi : vs' i = ⟨v, w.heap.size, w'.heap.size⟩ := if_pos rfl
    have heq := puts_more (ops := ops) (vs := fun k => (vs' k).v) (m := fun k => listed.getD k false) (m' := fun k => (listed.setIfInBounds i true).getD k false) (i := i) (List.range n) a
      List.pairwise_lt_range (List.mem_range.2 hin) h0' hmi hm' (fun k hk hik hl t ht hkt => by
        have hk := List.mem_range.1 hk
        obtain ⟨p, hp⟩ : ∃ p, ops[k]? = some p := ⟨ops[k]'(by omega), Array.getElem?_eq_getElem (by omega)⟩
        simp only [hp, ho, Option.bind_some] at hkt ht
        rcases hap k p hp hk (by omega) (.inr ⟨hik, hl⟩) with h | h
        · exact (Oper.apart_spec h).2.1 t hkt ht
        · exact (Oper.apart_spec h).2.1 t ht hkt)
    rw [ho, Option.bind_some, puts_off (vs := fun k => (vs k).v) (vs' := fun k => (vs' k).v) (m := fun k => listed.getD k false) (List.range n) a (fun k _ hk => by
      have : k ≠ i := fun e => by subst e; rw [h0'] at hk; cases hk
      show (vs' k).v = (vs k).v
      rw [hv' k this])] at heq
    have hvv : (vs' i).v = v := by rw [hvi]
    (try dsimp only at heq)
    rw [hvv] at heq
    rw [← heq]
    have hsz' := hb.size
    have hcl' : ∀ j p, ops[j]? = some p → (listed.setIfInBounds i true).getD j false = true → ∀ e ∈ p.after, Region.binds md e = true → (listed.setIfInBounds i true).getD e.on false = true := by
      intro j p hp hj e he hb
      by_cases hji : j = i
      · subst hji
        rw [ho] at hp; cases hp
        exact getD_set_true (hall e he hb)
      · rw [hm' j hji] at hj
        exact getD_set_true (hcl j p hp hj e he hb)
    refine ih _ vs' w' (by simpa using hsz) hcl' (fun k hk => by rw [hm' k (by omega)]; exact htl k hk) ?_ ⟨hst _ _ hG.s hb, Nat.le_trans hG.n0 hsz', ?_, ?_⟩
    · have hlen : ((List.range n).filter fun k => !(listed.setIfInBounds i true).getD k false).length + 1 = ((List.range n).filter fun k => !listed.getD k false).length := by
        refine filt_one (i := i) _ List.nodup_range (List.mem_range.2 hin) (fun k hk => ?_) (by simpa using h0') (by simpa using hmi)
        rw [hm' k hk]
      omega
    · intro j hj hl
      by_cases hji : j = i
      · subst hji
        rw [hvi, phiK_congr hds (i := j) (vs := vs) (vs' := vs') (fun d o hd _ _ => hv' d (by omega))]
        exact ⟨hv, hG.n0, hsz', Nat.le_refl _⟩
      · have hl' : listed.getD j false = true := by rw [← hm' j hji]; exact hl
        obtain ⟨e1, e2, e3, e4⟩ := hG.each j hj hl'
        rw [hv' j hji, phiK_congr hds (i := j) (vs := vs) (vs' := vs') (fun d o' hd ho' hdp => hv' d (fun e => by
          subst e
          have := hdep listed htl hcl j d o' hd ho' hl' hdp
          rw [h0'] at this
          cases this))]
        exact ⟨hphi j _ _ _ _ e1 hb, e2, e3, Nat.le_trans e4 hsz'⟩
    · intro j k hj hk hlj hlk hne
      have old : ∀ j, j < n → j ≠ i → (listed.setIfInBounds i true).getD j false = true → listed.getD j false = true := fun j _ h1 h2 => by rw [← hm' j h1]; exact h2
      by_cases hji : j = i
      · subst hji
        have hkj : k ≠ j := fun e => hne e.symm
        rw [hvi, hv' k hkj]
        exact .inr (hG.each k hk (old k hk hkj hlk)).2.2.2
      · by_cases hki : k = i
        · subst hki
          rw [hvi, hv' j hji]
          exact .inl (hG.each j hj (old j hj hji hlj)).2.2.2
        · rw [hv' j hji, hv' k hki]
          exact hG.apart j k hj hk (old j hj hji hlj) (old k hk hki hlk) hne

/-- The first operations, in the text's order: each yields its value, or some value of its kind. -/
def PlanR (P : Program) (ops : Array Oper) (S : World → Prop) (KS : List KdR) (K : (Nat → Gt) → Act → Prop) : Nat → List KdR → List Oper → (Nat → Gt) → Act → Prop
  | _, _, [], vs, a => K vs a
  | _, [], _ :: _, _, _ => False
  | m, k :: ks, o :: r, vs, a => DoesR P ops S o (fun w => ∀ j, j < m → depB ops o j = true → phiK KS j vs (vs j) w) (k.phi vs) a ∧ ∀ x : Gt, k.ok vs x.v → PlanR P ops S KS K (m + 1) ks r (fun j => if j = m then x else vs j) (a.put o.dst x.v)

theorem range_from (m j : Nat) (hj : m < j) : (List.range (j - m)).map (· + m) = m :: (List.range (j - (m + 1))).map (· + (m + 1)) := by
  rw [show j - m = (j - (m + 1)) + 1 by omega, List.range_succ_eq_map, List.map_cons, List.map_map]
  congr 1
  · omega
  · apply List.map_congr_left
    intro x _
    show x + 1 + m = x + (m + 1)
    omega
theorem PlanR.take {KS : List KdR} {K : (Nat → Gt) → Act → Prop} (hds : dsOk ops KS = true) (n : Nat) : ∀ (l : List Oper) (ks : List KdR) (m : Nat) (vs0 : Nat → Gt) (a : Act), (ops.toList.take n).drop m = l → KS.drop m = ks → m ≤ n → n ≤ ops.size → PlanR P ops S KS K m ks l vs0 a →
    ∀ vs : Nat → Gt, (∀ j, j < m → vs j = vs0 j) → (∀ j, j < n → okK KS j vs) → (∀ i o, m ≤ i → i < n → ops[i]? = some o → DoesR P ops S o (fun w => ∀ j, j < i → depB ops o j = true → phiK KS j vs (vs j) w) (phiK KS i vs) (Proofs.Ytkabpnchfhkhgaa.puts ops (fun k => (vs k).v) (fun _ => true) ((List.range (i - m)).map (· + m)) a)) ∧
      ∃ vs1, (∀ j, j < n → vs1 j = vs j) ∧ K vs1 (Proofs.Ytkabpnchfhkhgaa.puts ops (fun k => (vs k).v) (fun _ => true) ((List.range (n - m)).map (· + m)) a)
  | [], ks, m, vs0, a, hl, hk, hmn, hns, h, vs, hv, hok => by
    have hn : n ≤ m := by
      have := congrArg List.length hl
      simp at this
      omega
    refine ⟨fun i o hi hin ho => by omega, vs0, fun j hj => (hv j (by omega)).symm, ?_⟩
    rw [Nat.sub_eq_zero_of_le hn]
    cases ks <;> exact h
  | o :: r, [], m, vs0, a, hl, hk, hmn, hns, h, vs, hv, hok => h.elim
  | o :: r, k :: ks, m, vs0, a, hl, hk, hmn, hns, h, vs, hv, hok => by
    have hn : m < n := by
      have := congrArg List.length hl
      simp at this
      omega
    have hdrop : (ops.toList.take n).drop m = ops[m]'(by omega) :: (ops.toList.take n).drop (m + 1) := by
      rw [List.drop_eq_getElem_cons (by simp; omega)]
      simp
    rw [hl] at hdrop
    obtain ⟨e1, e2⟩ := List.cons.inj hdrop
    have hon : ops[m]? = some o := by rw [Array.getElem?_eq_getElem (by omega), e1]
    have hmk : m < KS.length := by
      have := congrArg List.length hk
      simp at this
      omega
    rw [List.drop_eq_getElem_cons hmk] at hk
    obtain ⟨k1, k2⟩ := List.cons.inj hk
    have hKm : KS[m]? = some k := by rw [List.getElem?_eq_getElem hmk, k1]
    have hdm : ∀ d ∈ k.deps, vs d = vs0 d := fun d hd => hv d (dsOk_spec hds hKm d hd).1
    obtain ⟨hd, hr⟩ := h
    have hkm : k.ok vs0 (vs m).v := by
      have := hok m hn
      unfold okK at this
      rw [hKm] at this
      rw [← KdR.ok_congr hdm]
      exact this
    obtain ⟨h1, h2⟩ := PlanR.take hds n r ks (m + 1) _ _ e2.symm k2 (by omega) hns (hr (vs m) hkm) vs (fun j hj => by
      by_cases hjm : j = m
      · subst hjm; rw [if_pos rfl]
      · rw [if_neg hjm]; exact hv j (by omega)) hok
    have first : ∀ j, m < j → Proofs.Ytkabpnchfhkhgaa.puts ops (fun k => (vs k).v) (fun _ => true) ((List.range (j - m)).map (· + m)) a = Proofs.Ytkabpnchfhkhgaa.puts ops (fun k => (vs k).v) (fun _ => true) ((List.range (j - (m + 1))).map (· + (m + 1))) (a.put o.dst (vs m).v) := by
      intro j hj
      rw [range_from m j hj]
      show Proofs.Ytkabpnchfhkhgaa.puts ops _ (fun _ => true) _ (if true = true then a.put ((ops[m]?).bind (·.dst)) ((vs m).v) else a) = _
      rw [if_pos rfl, hon]
      rfl
    refine ⟨fun i o' hi hin ho => ?_, ?_⟩
    · by_cases him : i = m
      · subst him
        rw [hon] at ho; cases ho
        rw [Nat.sub_self]
        have e3 : (fun w => ∀ j, j < i → depB ops o j = true → phiK KS j vs (vs j) w) = (fun w => ∀ j, j < i → depB ops o j = true → phiK KS j vs0 (vs0 j) w) := by
          have hj : ∀ j, j < i → ∀ w, phiK KS j vs (vs j) w = phiK KS j vs0 (vs0 j) w := fun j hj w => by
            rw [hv j hj, phiK_congr hds (i := j) (vs := vs0) (fun d o hd _ _ => hv d (by omega))]
          funext w
          apply propext
          constructor
          · intro hh j hj2 hd; rw [← hj j hj2]; exact hh j hj2 hd
          · intro hh j hj2 hd; rw [hj j hj2]; exact hh j hj2 hd
        have e4 : phiK KS i vs = k.phi vs0 := by
          unfold phiK
          rw [hKm]
          exact KdR.phi_congr hdm
        rw [e3, e4]
        exact hd
      · rw [first i (by omega)]
        exact h1 i o' (by omega) hin ho
    · rw [first n hn]
      exact h2

theorem wp_region_planD {id : Nat} {a : Act} {w : World} (dd n : Nat) (S : World → Prop) (KS : List KdR) (hm : P.follows .mixedOrders = true) (hok : planOkD .any ops n dd = true) (hsel : Region.noSelect ops = true)
    (hseq : Region.seqB .any ops (ops.size - n) n (heads ops.size n) = true) (hds : dsOk ops KS = true) (hst : Stable S) (hF : ∀ k ∈ KS, k.Fine) (hS : S w.drew)
    (h : PlanR P ops S KS (fun vs a' => ∀ w', GotR S KS w.heap.size n (fun _ => true) vs w' → wpList P ops Q (ops.toList.drop n) a' w') 0 KS (ops.toList.take n) (fun _ => ⟨undef, 0, 0⟩) a) : (Code.region id ops true).wp P Q a w := by
  have hns := planOkD_le hok
  have hT := fun vs => PlanR.take hds n (ops.toList.take n) KS 0 _ a rfl rfl (Nat.zero_le _) hns h vs (fun j hj => absurd hj (Nat.not_lt_zero _))
  simp only [Nat.sub_zero, map_zero] at hT
  refine wp_region_any hm ?_
  have hz : ∀ k, (Array.replicate ops.size false).getD k false = false := fun k => by
    rw [Array.getD_eq_getD_getElem?, Array.getElem?_replicate]; split <;> rfl
  have hlen : (ops.toList.drop n).length = ops.size - n := by simp
  have h3 := wpAny_planR (Q := Q) (n := n) (g := ops.size - n) (N0 := w.heap.size) hok hsel hds a hst hF (fun i o hin ho vs hv => (hT vs hv).1 i o (Nat.zero_le _) hin ho)
    (fun listed vs w' hsz hl hv hG => by
      rw [heads_of hns hsz hl, ← hlen]
      obtain ⟨vs1, e4, h2⟩ := (hT vs hv).2
      refine wpAny_of_seq (ops.toList.drop n) n _ _ _ (fun j => by simp) (by rw [hlen]; exact hseq) (h2 w' ⟨hG.s, hG.n0, fun i hi hm => by rw [e4 i hi, phiK_congr hds (i := i) (vs := vs) (fun d o hd _ _ => e4 d (by omega))]; exact hG.each i hi hm, fun i j hi hj h1 h2 hne => by rw [e4 i hi, e4 j hj]; exact hG.apart i j hi hj h1 h2 hne⟩))
    n (Array.replicate ops.size false) (fun _ => ⟨undef, 0, 0⟩) w.drew (by simp) (fun i o _ hl => by rw [hz] at hl; cases hl) (fun k _ => hz k) (by
      rw [List.filter_eq_self.2 (fun k _ => by rw [hz]; rfl)]
      simp) ⟨hS, (by rw [World.size_drew]; exact Nat.le_refl _), (fun i _ hl => by rw [hz] at hl; cases hl), (fun i j _ _ hl => by rw [hz] at hl; cases hl)⟩
  have h4 : ∀ f : Nat → Value, Proofs.Ytkabpnchfhkhgaa.puts ops f (fun k => (Array.replicate ops.size false).getD k false) (List.range n) a = a := by
    intro f
    have : ∀ (ks : List Nat), Proofs.Ytkabpnchfhkhgaa.puts ops f (fun k => (Array.replicate ops.size false).getD k false) ks a = a := by
      intro ks
      induction ks with
      | nil => rfl
      | cons x xs ih =>
        unfold Proofs.Ytkabpnchfhkhgaa.puts
        rw [hz]
        exact ih
    exact this _
  rw [h4, show n + (ops.size - n) = ops.size by omega] at h3
  exact h3

theorem wp_region_planR {id : Nat} {a : Act} {w : World} (n : Nat) (S : World → Prop) (KS : List KdR) (hm : P.follows .mixedOrders = true) (hok : planOkD .any ops n 5 = true) (hsel : Region.noSelect ops = true)
    (hseq : Region.seqB .any ops (ops.size - n) n (heads ops.size n) = true) (hds : dsOk ops KS = true) (hst : Stable S) (hF : ∀ k ∈ KS, k.Fine) (hS : S w.drew)
    (h : PlanR P ops S KS (fun vs a' => ∀ w', GotR S KS w.heap.size n (fun _ => true) vs w' → wpList P ops Q (ops.toList.drop n) a' w') 0 KS (ops.toList.take n) (fun _ => ⟨undef, 0, 0⟩) a) : (Code.region id ops true).wp P Q a w :=
  wp_region_planD 5 n S KS hm hok hsel hseq hds hst hF hS h

section
variable {KS : List KdR} {K : (Nat → Gt) → Act → Prop} {m : Nat} {ks : List KdR} {vs : Nat → Gt} {o : Oper} {r : List Oper} {a : Act}
theorem PlanR.done (h : K vs a) : PlanR P ops S KS K m ks [] vs a := by
  cases ks <;> exact h
/-- One value in every world. -/
theorem PlanR.val {v : Value} (hw : Region.wanted o (yielded ops a.tmps) = true)
    (hv : ∀ w, S w → (execOp a.eval o).run P w = .ok (.value v) w)
    (h : ∀ lo hi, PlanR P ops S KS K (m + 1) ks r (fun j => if j = m then ⟨v, lo, hi⟩ else vs j) (a.put o.dst v)) : PlanR P ops S KS K m (.val v :: ks) (o :: r) vs a :=
  ⟨.inl ⟨hw, fun w hS hK => by rw [hv w hS]; exact ⟨RowKit.Below.refl _ _, rfl⟩⟩, fun x hx => by
    obtain ⟨xv, lo, hi⟩ := x
    obtain rfl : xv = v := hx
    exact h lo hi⟩
theorem PlanR.no (hw : Region.wanted o (yielded ops a.tmps) = false)
    (h : ∀ lo hi, PlanR P ops S KS K (m + 1) ks r (fun j => if j = m then ⟨undef, lo, hi⟩ else vs j) (a.put o.dst undef)) : PlanR P ops S KS K m (.val undef :: ks) (o :: r) vs a :=
  ⟨.inr ⟨hw, fun w hS _ => rfl⟩, fun x hx => by
    obtain ⟨xv, lo, hi⟩ := x
    obtain rfl : xv = undef := hx
    exact h lo hi⟩
/-- One value, off what others yielded. -/
theorem PlanR.fn {v : Value} {ds : List Nat} {f : List Value → Value} (hw : Region.wanted o (yielded ops a.tmps) = true) (hf : f (valsOf ds vs) = v)
    (hv : ∀ w, S w → (execOp a.eval o).run P w = .ok (.value v) w)
    (h : ∀ lo hi, PlanR P ops S KS K (m + 1) ks r (fun j => if j = m then ⟨v, lo, hi⟩ else vs j) (a.put o.dst v)) : PlanR P ops S KS K m (.fn ds f :: ks) (o :: r) vs a :=
  ⟨.inl ⟨hw, fun w hS hK => by rw [hv w hS]; exact ⟨RowKit.Below.refl _ _, hf.symm⟩⟩, fun x hx => by
    obtain ⟨xv, lo, hi⟩ := x
    obtain rfl : xv = v := Eq.trans (show xv = f (valsOf ds vs) from hx) hf
    exact h lo hi⟩
theorem PlanR.any {v0 : Value} {ok : Value → Prop} {p : Gt → World → Prop} (hw : Region.wanted o (yielded ops a.tmps) = true)
    (hv : ∀ w, S w → (∀ j, j < m → depB ops o j = true → phiK KS j vs (vs j) w) → OneR P w p ((execOp a.eval o).run P w))
    (h : ∀ x : Gt, ok x.v → PlanR P ops S KS K (m + 1) ks r (fun j => if j = m then x else vs j) (a.put o.dst x.v)) : PlanR P ops S KS K m (.any v0 ok p :: ks) (o :: r) vs a :=
  ⟨.inl ⟨hw, hv⟩, h⟩
end
end
end Go.Proofs.Ytkabpnchfhkhgaa
