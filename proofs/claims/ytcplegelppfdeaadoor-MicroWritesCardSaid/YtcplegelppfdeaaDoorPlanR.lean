/-
  A region that draws its order, of operations each of which yields some value of a kind in every world that meets S, makes memory, and turns none that was there: whatever the order, in the end each value is of its kind, and what each made lies apart from what the others made.
-/
import Derived.Test.YtcplegelppfdeaaDoorPlanA
set_option linter.unusedSimpArgs false
set_option linter.unusedVariables false
namespace Go.Proofs.YtcplegelppfdeaaDoor
open Go

section
variable {P : Program} {ops : Array Oper} {Q : Exit → Act → World → Prop} {md : Region.Mode} {S : World → Prop}

/-- As planOkT, what is waited for so many steps far. -/
def planOkD (md : Region.Mode) (ops : Array Oper) (n dd : Nat) : Bool :=
  decide (n ≤ ops.size) && ((List.range n).all fun i => match ops[i]? with
    | none => true
    | some o => (o.after.all fun e => !Region.binds md e || decide (e.on < i)) &&
      (List.range i).all fun j => (o.after.any fun e => Region.binds md e && e.on == j) || (match ops[j]? with | some p => p.apart ops o | none => true)) &&
  (List.range (ops.size - n)).all fun d => match ops[n + d]? with
    | none => true
    | some o => (List.range n).all fun j => (anc md ops dd (n + d)).contains j
theorem planOkD_spec {n dd : Nat} (h : planOkD md ops n dd = true) {i : Nat} {o : Oper} (ho : ops[i]? = some o) (hlt : i < n) :
    (∀ e ∈ o.after, Region.binds md e = true → e.on < i) ∧ ∀ j p, j < i → ops[j]? = some p → (∀ e ∈ o.after, Region.binds md e = true → e.on ≠ j) → p.apart ops o = true := by
  unfold planOkD at h
  simp only [Bool.and_eq_true] at h
  have h1 := List.all_eq_true.1 h.1.2 i (List.mem_range.2 hlt)
  simp only [ho, Bool.and_eq_true] at h1
  obtain ⟨h1, h2⟩ := h1
  refine ⟨fun e he hb => ?_, fun j p hj hp hno => ?_⟩
  · have := Array.all_eq_true_iff_forall_mem.1 h1 e he
    simpa [hb] using this
  · have := List.all_eq_true.1 h2 j (List.mem_range.2 hj)
    simp only [hp, Bool.or_eq_true] at this
    rcases this with this | this
    · obtain ⟨n, hn, hb⟩ := Array.any_eq_true.1 this
      simp only [Bool.and_eq_true, beq_iff_eq] at hb
      exact absurd hb.2 (hno _ (Array.getElem_mem hn) hb.1)
    · exact this
theorem planOkD_tail {n dd : Nat} (h : planOkD md ops n dd = true) {i : Nat} {o : Oper} (ho : ops[i]? = some o) (hle : n ≤ i) {j : Nat} (hj : j < n) : j ∈ anc md ops dd i := by
  have hlt : i < ops.size := (Array.getElem?_eq_some_iff.1 ho).1
  unfold planOkD at h
  simp only [Bool.and_eq_true] at h
  have h1 := List.all_eq_true.1 h.2 (i - n) (List.mem_range.2 (by omega))
  rw [show n + (i - n) = i by omega, ho] at h1
  have h2 := List.all_eq_true.1 h1 j (List.mem_range.2 hj)
  simpa using h2
theorem planOkD_le {n dd : Nat} (h : planOkD md ops n dd = true) : n ≤ ops.size := by
  unfold planOkD at h
  simp only [Bool.and_eq_true, decide_eq_true_eq] at h
  exact h.1.1
/-- What an operation has yielded: the value, and from where to where its memory goes. -/
structure Gt where
  v : Value
  lo : Nat
  hi : Nat
/-- What an operation's run comes to: a value of the kind; nothing turns that was there. -/
def OneR (P : Program) (w : World) (Ψ : Gt → World → Prop) : Result Next → Prop
  | .ok (.value u) w' => RowKit.Below w.heap.size w w' ∧ Ψ ⟨u, w.heap.size, w'.heap.size⟩ w'
  | .ok (.enter f args) w' => w' = w ∧ Calls P f args w fun e w'' => ∃ v, e = .returned v ∧ RowKit.Below w.heap.size w w'' ∧ Ψ ⟨v, w.heap.size, w''.heap.size⟩ w''
  | _ => False
def DoesR (P : Program) (ops : Array Oper) (S : World → Prop) (o : Oper) (Kn : World → Prop) (Ψ : Gt → World → Prop) (a : Act) : Prop :=
  (Region.wanted o (yielded ops a.tmps) = true ∧ ∀ w, S w → Kn w → OneR P w Ψ ((execOp a.eval o).run P w)) ∨
  (Region.wanted o (yielded ops a.tmps) = false ∧ ∀ w, S w → Kn w → Ψ ⟨undef, w.heap.size, w.heap.size⟩ w)

theorem DoesR.wpOp {i : Nat} {o : Oper} {a : Act} {Kn : World → Prop} {Ψ : Gt → World → Prop} (hi : ops[i]? = some o) (hd : DoesR P ops S o Kn Ψ a)
    {K : Act → World → Prop} {w : World} (hS : S w) (hK : Kn w) (h : ∀ v w', RowKit.Below w.heap.size w w' → Ψ ⟨v, w.heap.size, w'.heap.size⟩ w' → K (a.put o.dst v) w') : Go.wpOp P ops Q i K a w := by
  unfold Go.wpOp
  simp only [hi]
  rcases hd with ⟨hw, hv⟩ | ⟨hw, hv⟩
  · simp only [hw, if_true]
    refine .inl ?_
    have h1 := hv w hS hK
    unfold Oper.wp
    generalize (execOp a.eval o).run P w = r at *
    cases r with
    | ok n w' =>
      cases n <;> simp only [OneR] at h1
      case value u => exact h u w' h1.1 h1.2
      case enter f args =>
        obtain ⟨rfl, h1⟩ := h1
        refine Calls.mono h1 fun e w'' he => ?_
        obtain ⟨v, rfl, h2, h3⟩ := he
        exact h v w'' h2 h3
    | halt x w' => simp only [OneR] at h1
  · simp only [hw, Bool.false_eq_true, if_false]
    exact h _ w (RowKit.Below.refl _ _) (hv w hS hK)
theorem DoesR.of_looks {o : Oper} {a a' : Act} {Kn : World → Prop} {Ψ : Gt → World → Prop} (hs : ∀ cs b, o.op ≠ .select cs b) (h : ∀ t ∈ o.looksAt ops, a'.tmps[t]? = a.tmps[t]?) (hd : DoesR P ops S o Kn Ψ a) : DoesR P ops S o Kn Ψ a' := by
  have he : execOp a'.eval o = execOp a.eval o := execOp_congr o hs fun x hx => by
    cases x with
    | tmp t =>
      have := h t (List.mem_append_left _ (List.mem_filterMap.2 ⟨.tmp t, by simpa using hx, rfl⟩))
      simp only [Act.eval, Array.getD_eq_getD_getElem?, this]
    | _ => rfl
  have hw : Region.wanted o (yielded ops a'.tmps) = Region.wanted o (yielded ops a.tmps) := by
    unfold Region.wanted
    cases hg : o.guard with
    | none => rfl
    | some gw =>
      obtain ⟨g, want⟩ := gw
      have hy : yielded ops a'.tmps g = yielded ops a.tmps g := by
        unfold yielded
        cases ht : (ops[g]?).bind (·.dst) with
        | none => rfl
        | some t =>
          have := h t (List.mem_append_right _ (by simp [hg, ht]))
          simp only [Option.bind_some, this]
      simp only [hy]
  unfold DoesR at *
  rw [he, hw]
  exact hd
/-- Whether an operation looks at what the j-th one puts. -/
def depB (ops : Array Oper) (o : Oper) (j : Nat) : Bool := match (ops[j]?).bind (·.dst) with | some t => decide (t ∈ o.looksAt ops) | none => false
theorem puts_off {vs vs' : Nat → Value} {m : Nat → Bool} : ∀ (ks : List Nat) (a : Act), (∀ k ∈ ks, m k = true → vs' k = vs k) → puts ops vs' m ks a = puts ops vs m ks a
  | [], _, _ => rfl
  | k :: ks, a, h => by
    unfold puts
    cases hm : m k
    · exact puts_off ks _ (fun j hj => h j (List.mem_cons_of_mem _ hj))
    · rw [h k (by simp) hm]
      exact puts_off ks _ (fun j hj => h j (List.mem_cons_of_mem _ hj))
theorem puts_all (vs : Nat → Value) (n i : Nat) (a : Act) (h : i ≤ n) : puts ops vs (fun _ => true) (List.range i) a = puts ops vs (fun k => decide (k < i)) (List.range n) a := by
  obtain ⟨d, hd⟩ : ∃ d, n = i + d := ⟨n - i, by omega⟩
  have : ∀ d, puts ops vs (fun _ => true) (List.range i) a = puts ops vs (fun k => decide (k < i)) (List.range (i + d)) a := by
    intro d
    induction d with
    | zero => exact puts_congr _ _ (fun k hk => by simp [List.mem_range.1 hk])
    | succ n ihn =>
      rw [ihn, ← Nat.add_assoc, List.range_succ]
      have happ : ∀ (l1 l2 : List Nat) (m : Nat → Bool) (b : Act), puts ops vs m (l1 ++ l2) b = puts ops vs m l2 (puts ops vs m l1 b) := by
        intro l1
        induction l1 with
        | nil => intros; rfl
        | cons x xs ihx => intro l2 m b; exact ihx l2 m _
      rw [happ]
      have : decide (i + n < i) = false := by simp
      simp [puts, this]
  rw [hd]; exact this d
/-- What is known of an operation ahead: the value that it yields; or which function of others' values it is; or of which kind it is: some such value, what may be said of it without a world, and in a world. -/
inductive KdR where
  | val (v : Value)
  | fn (ds : List Nat) (f : List Value → Value)
  | any (v0 : Value) (ok : Value → Prop) (phi : Gt → World → Prop)
def valsOf (ds : List Nat) (vs : Nat → Gt) : List Value := ds.map fun d => (vs d).v
def KdR.phi (vs : Nat → Gt) : KdR → Gt → World → Prop
  | .val v => fun x _ => x.v = v
  | .fn ds f => fun x _ => x.v = f (valsOf ds vs)
  | .any _ _ p => p
def KdR.ok (vs : Nat → Gt) : KdR → Value → Prop
  | .val v => fun x => x = v
  | .fn ds f => fun x => x = f (valsOf ds vs)
  | .any _ ok _ => ok
def KdR.v0 (vs : Nat → Gt) : KdR → Value
  | .val v => v
  | .fn ds f => f (valsOf ds vs)
  | .any v _ _ => v
def KdR.Fine : KdR → Prop
  | .val _ => True
  | .fn _ _ => True
  | .any v0 ok p => ok v0 ∧ (∀ x, Stable (p x)) ∧ ∀ x w, p x w → ok x.v
def KdR.deps : KdR → List Nat
  | .fn ds _ => ds
  | _ => []
theorem KdR.Fine.st {k : KdR} (h : k.Fine) : ∀ vs x, Stable (k.phi vs x) := by
  cases k with
  | val v => exact fun vs x W w1 h _ => h
  | fn ds f => exact fun vs x W w1 h _ => h
  | any v0 ok p => exact fun _ => h.2.1
theorem KdR.Fine.ok {k : KdR} (h : k.Fine) : ∀ vs x w, k.phi vs x w → k.ok vs x.v := by
  cases k with
  | val v => exact fun vs x w h => h
  | fn ds f => exact fun vs x w h => h
  | any v0 ok p => exact fun _ => h.2.2
theorem KdR.Fine.v0 {k : KdR} (h : k.Fine) (vs : Nat → Gt) : k.ok vs (k.v0 vs) := by
  cases k with
  | val v => rfl
  | fn ds f => rfl
  | any v0 ok p => exact h.1
theorem valsOf_congr {vs vs' : Nat → Gt} {ds : List Nat} (h : ∀ d ∈ ds, vs' d = vs d) : valsOf ds vs' = valsOf ds vs := List.map_congr_left fun d hd => by rw [h d hd]
theorem KdR.phi_congr {k : KdR} {vs vs' : Nat → Gt} (h : ∀ d ∈ k.deps, vs' d = vs d) : k.phi vs' = k.phi vs := by
  cases k with
  | val v => rfl
  | fn ds f =>
    have e : valsOf ds vs' = valsOf ds vs := valsOf_congr h
    show (fun (x : Gt) (_ : World) => x.v = f (valsOf ds vs')) = fun x _ => x.v = f (valsOf ds vs)
    rw [e]
  | any v0 ok p => rfl
theorem KdR.ok_congr {k : KdR} {vs vs' : Nat → Gt} (h : ∀ d ∈ k.deps, vs' d = vs d) : k.ok vs' = k.ok vs := by
  cases k with
  | val v => rfl
  | fn ds f =>
    have e : valsOf ds vs' = valsOf ds vs := valsOf_congr h
    show (fun x : Value => x = f (valsOf ds vs')) = fun x => x = f (valsOf ds vs)
    rw [e]
  | any v0 ok p => rfl
def phiK (KS : List KdR) (i : Nat) (vs : Nat → Gt) : Gt → World → Prop := match KS[i]? with
  | some k => k.phi vs
  | none => fun _ _ => True
def okK (KS : List KdR) (i : Nat) (vs : Nat → Gt) : Prop := match KS[i]? with
  | some k => k.ok vs (vs i).v
  | none => True
/-- Functions are of what their operations look at. -/
def dsOk (ops : Array Oper) (KS : List KdR) : Bool := (List.range KS.length).all fun i => match KS[i]? with
  | some k => k.deps.all fun d => decide (d < i) && (match ops[i]? with | some o => depB ops o d | none => false)
  | none => true
theorem dsOk_spec {KS : List KdR} (h : dsOk ops KS = true) {i : Nat} {k : KdR} (hk : KS[i]? = some k) : ∀ d ∈ k.deps, d < i ∧ ∃ o, ops[i]? = some o ∧ depB ops o d = true := by
  intro d hd
  have h1 := List.all_eq_true.1 h i (List.mem_range.2 (List.getElem?_eq_some_iff.1 hk).1)
  rw [hk] at h1
  have h2 := List.all_eq_true.1 h1 d hd
  rw [Bool.and_eq_true, decide_eq_true_eq] at h2
  refine ⟨h2.1, ?_⟩
  cases ho : ops[i]? with
  | none => rw [ho] at h2; cases h2.2
  | some o => rw [ho] at h2; exact ⟨o, rfl, h2.2⟩
theorem phiK_congr {KS : List KdR} (hds : dsOk ops KS = true) {i : Nat} {vs vs' : Nat → Gt} (h : ∀ d o, d < i → ops[i]? = some o → depB ops o d = true → vs' d = vs d) : phiK KS i vs' = phiK KS i vs := by
  unfold phiK
  cases hk : KS[i]? with
  | none => rfl
  | some k =>
    show k.phi vs' = k.phi vs
    refine KdR.phi_congr fun d hd => ?_
    obtain ⟨h1, o, ho, h2⟩ := dsOk_spec hds hk d hd
    exact h d o h1 ho h2
/-- What stands in a world, of what has been yielded. -/
structure GotR (S : World → Prop) (KS : List KdR) (N0 n : Nat) (m : Nat → Bool) (vs : Nat → Gt) (w : World) : Prop where
  s : S w
  n0 : N0 ≤ w.heap.size
  each : ∀ i, i < n → m i = true → phiK KS i vs (vs i) w ∧ N0 ≤ (vs i).lo ∧ (vs i).lo ≤ (vs i).hi ∧ (vs i).hi ≤ w.heap.size
  apart : ∀ i j, i < n → j < n → m i = true → m j = true → i ≠ j → (vs i).hi ≤ (vs j).lo ∨ (vs j).hi ≤ (vs i).lo
/-- Values for all, that are those that have been yielded. -/
theorem fillR {KS : List KdR} (hds : dsOk ops KS = true) (hF : ∀ k ∈ KS, k.Fine) {m : Nat → Bool} {vs : Nat → Gt} {n : Nat} (hm : ∀ j d o, d < j → ops[j]? = some o → m j = true → depB ops o d = true → m d = true) (hok : ∀ j, j < n → m j = true → okK KS j vs) :
    ∀ k, k ≤ n → ∃ vs2 : Nat → Gt, (∀ j, m j = true → vs2 j = vs j) ∧ ∀ j, j < k → okK KS j vs2
  | 0, _ => ⟨vs, fun _ _ => rfl, fun _ h => absurd h (Nat.not_lt_zero _)⟩
  | k + 1, hk => by
    obtain ⟨vs2, h1, h2⟩ := fillR hds hF hm hok k (by omega)
    cases hmk : m k with
    | true =>
      refine ⟨vs2, h1, fun j hj => ?_⟩
      by_cases hjk : j = k
      · subst hjk
        have := hok j (by omega) hmk
        unfold okK at this ⊢
        cases hK : KS[j]? with
        | none => trivial
        | some kd =>
          rw [hK] at this
          show kd.ok vs2 (vs2 j).v
          rw [KdR.ok_congr (vs := vs) (fun d hd => ?_), h1 j hmk]
          · exact this
          · obtain ⟨e1, o, ho, e2⟩ := dsOk_spec hds hK d hd
            exact h1 d (hm j d o e1 ho hmk e2)
      · exact h2 j (by omega)
    | false =>
      let x : Gt := match KS[k]? with | some kd => ⟨kd.v0 vs2, 0, 0⟩ | none => ⟨undef, 0, 0⟩
      have hne : ∀ j, j ≠ k → (fun j => if j = k then x else vs2 j) j = vs2 j := fun j hj => if_neg hj
      have hxk : (fun j => if j = k then x else vs2 j) k = x := if_pos rfl
      refine ⟨fun j => if j = k then x else vs2 j, fun j hj => ?_, fun j hj => ?_⟩
      · have : j ≠ k := fun e => by subst e; rw [hmk] at hj; cases hj
        exact (hne j this).trans (h1 j hj)
      · have hcong : ∀ kd, KS[j]? = some kd → kd.ok (fun j => if j = k then x else vs2 j) = kd.ok vs2 := fun kd hK => KdR.ok_congr fun d hd => by
          obtain ⟨e1, _⟩ := dsOk_spec hds hK d hd
          exact hne d (by omega)
        unfold okK
        cases hK : KS[j]? with
        | none => trivial
        | some kd =>
          show kd.ok _ _
          rw [hcong kd hK]
          show kd.ok vs2 (if j = k then x else vs2 j).v
          by_cases hjk : j = k
          · subst hjk
            have hx : x = ⟨kd.v0 vs2, 0, 0⟩ := by show (match KS[j]? with | some kd => (⟨kd.v0 vs2, 0, 0⟩ : Gt) | none => ⟨undef, 0, 0⟩) = _; rw [hK]
            rw [if_pos rfl, hx]
            exact (hF kd (List.mem_of_getElem? hK)).v0 vs2
          · have := h2 j (by omega)
            unfold okK at this
            rw [hK] at this
            rw [if_neg hjk]
            exact this

theorem wpAny_planR {n g N0 dd : Nat} {KS : List KdR} (hok : planOkD md ops n dd = true) (hsel : Region.noSelect ops = true) (hds : dsOk ops KS = true) (a : Act)
    (hst : Stable S) (hF : ∀ k ∈ KS, k.Fine)
    (hD : ∀ i o, i < n → ops[i]? = some o → ∀ vs : Nat → Gt, (∀ j, j < n → okK KS j vs) → DoesR P ops S o (fun w => ∀ j, j < i → depB ops o j = true → phiK KS j vs (vs j) w) (phiK KS i vs) (puts ops (fun k => (vs k).v) (fun _ => true) (List.range i) a))
    (hQ : ∀ (listed : Array Bool) (vs : Nat → Gt) (w' : World), listed.size = ops.size → (∀ k, listed.getD k false = decide (k < n)) → (∀ j, j < n → okK KS j vs) → GotR S KS N0 n (fun _ => true) vs w' → wpAny P md ops Q g listed (puts ops (fun k => (vs k).v) (fun _ => true) (List.range n) a) w') :
    ∀ (c : Nat) (listed : Array Bool) (vs : Nat → Gt) (w : World), listed.size = ops.size →
      (∀ i o, ops[i]? = some o → listed.getD i false = true → ∀ e ∈ o.after, Region.binds md e = true → listed.getD e.on false = true) →
      (∀ k, n ≤ k → listed.getD k false = false) →
      ((List.range n).filter fun k => !listed.getD k false).length = c → GotR S KS N0 n (fun k => listed.getD k false) vs w →
      wpAny P md ops Q (c + g) listed (puts ops (fun k => (vs k).v) (fun k => listed.getD k false) (List.range n) a) w := by
  have hs := Region.noSelect_spec hsel
  have hns := planOkD_le hok
  have hphi : ∀ i vs x, Stable (phiK KS i vs x) := fun i vs x => by
    unfold phiK
    cases hk : KS[i]? with
    | none => exact fun _ _ _ _ => trivial
    | some k => exact (hF k (List.mem_of_getElem? hk)).st vs x
  have hphok : ∀ i vs w, phiK KS i vs (vs i) w → okK KS i vs := fun i vs w h => by
    unfold phiK at h
    unfold okK
    cases hk : KS[i]? with
    | none => trivial
    | some k => rw [hk] at h; exact (hF k (List.mem_of_getElem? hk)).ok vs _ w h
  have hmin : ∀ (listed : Array Bool), listed.size = ops.size → ∀ k, k < n → listed.getD k false = false → ∃ i, i < n ∧ listed.getD i false = false ∧ i ∈ Region.ready md ops listed := by
    intro listed hsz k
    induction k using Nat.strongRecOn with
    | _ k ih =>
      intro hk hl
      by_cases hmem : k ∈ Region.ready md ops listed
      · exact ⟨k, hk, hl, hmem⟩
      · have hko : ops[k]? = some ops[k] := Array.getElem?_eq_getElem (by omega)
        have : ∃ e ∈ ops[k].after, Region.binds md e = true ∧ listed.getD e.on false = false := by
          apply Classical.byContradiction
          intro hno
          refine hmem ?_
          rw [mem_ready]
          refine ⟨by rw [Array.getD_eq_getD_getElem?] at hl ⊢; rw [Array.getElem?_eq_getElem (by omega)] at hl ⊢; exact hl, ops[k], hko, fun e he hb => ?_⟩
          cases hx : listed.getD e.on false with
          | true => rfl
          | false => exact absurd ⟨e, he, hb, hx⟩ hno
        obtain ⟨e, he, hb, hx⟩ := this
        have hlt := (planOkD_spec hok hko hk).1 e he hb
        exact ih e.on hlt (by omega) hx
  -- what an operation that is listed looks at is listed
  have hdep : ∀ (listed : Array Bool), (∀ k, n ≤ k → listed.getD k false = false) → (∀ i o, ops[i]? = some o → listed.getD i false = true → ∀ e ∈ o.after, Region.binds md e = true → listed.getD e.on false = true) →
      ∀ j d o, d < j → ops[j]? = some o → listed.getD j false = true → depB ops o d = true → listed.getD d false = true := by
    intro listed htl hcl j d o hdj ho hl hd
    have hjn : j < n := by
      apply Classical.byContradiction
      intro hno
      rw [htl j (by omega)] at hl
      cases hl
    have hjs : j < ops.size := (Array.getElem?_eq_some_iff.1 ho).1
    obtain ⟨p, hp⟩ : ∃ p, ops[d]? = some p := ⟨ops[d]'(by omega), Array.getElem?_eq_getElem (by omega)⟩
    unfold depB at hd
    rw [hp, Option.bind_some] at hd
    cases hdst : p.dst with
    | none => rw [hdst] at hd; cases hd
    | some t =>
      rw [hdst] at hd
      have hd' : t ∈ o.looksAt ops := by simpa using hd
      by_cases he : ∃ e ∈ o.after, Region.binds md e = true ∧ e.on = d
      · obtain ⟨e, he, hb, rfl⟩ := he
        exact hcl j o ho hl e he hb
      · have := (planOkD_spec hok ho hjn).2 d p hdj hp (fun e he' hb heq => he ⟨e, he', hb, heq⟩)
        exact absurd hd' ((Oper.apart_spec this).1 t hdst)
  intro c
  induction c with
  | zero =>
    intro listed vs w hsz hcl htl hle hG
    have hall : ∀ k, k < n → listed.getD k false = true := by
      intro k hk
      cases hl : listed.getD k false with
      | true => rfl
      | false =>
        have hmf : k ∈ (List.range n).filter fun k => !listed.getD k false := by
          rw [List.mem_filter]
          exact ⟨List.mem_range.2 hk, by rw [hl]; rfl⟩
        rw [List.length_eq_zero_iff.1 hle] at hmf
        cases hmf
    rw [puts_congr (m2 := fun _ => true) (List.range n) a (fun k hk => hall k (List.mem_range.1 hk)), Nat.zero_add]
    refine hQ listed vs w hsz (fun k => ?_) (fun j hj => hphok j vs w (hG.each j hj (hall j hj)).1) ⟨hG.s, hG.n0, fun i hi _ => hG.each i hi (hall i hi), fun i j hi hj _ _ hne => hG.apart i j hi hj (hall i hi) (hall j hj) hne⟩
    by_cases hk : k < n
    · rw [hall k hk]; simp [hk]
    · rw [htl k (by omega)]; simp [hk]
  | succ c ih =>
    intro listed vs0 w hsz hcl htl hle hG0
    obtain ⟨vs, hag, hok0⟩ := fillR hds hF (m := fun k => listed.getD k false) (vs := vs0) (n := n) (hdep listed htl hcl) (fun j hj hl => hphok j vs0 w (hG0.each j hj hl).1) n (Nat.le_refl _)
    have hG : GotR S KS N0 n (fun k => listed.getD k false) vs w := ⟨hG0.s, hG0.n0, fun i hi hl => by
        rw [hag i hl, phiK_congr hds (i := i) (vs := vs0) (fun d o hd ho hdp => hag d (hdep listed htl hcl i d o hd ho hl hdp))]
        exact hG0.each i hi hl, fun i j hi hj hl1 hl2 hne => by rw [hag i hl1, hag j hl2]; exact hG0.apart i j hi hj hl1 hl2 hne⟩
    rw [← puts_off (vs := fun k => (vs0 k).v) (vs' := fun k => (vs k).v) (m := fun k => listed.getD k false) (List.range n) a (fun k _ hk => by show (vs k).v = (vs0 k).v; rw [hag k hk])]
    clear hG0 hag vs0
    rw [show c + 1 + g = (c + g) + 1 by omega]
    have hsome : ∃ k, k < n ∧ listed.getD k false = false := by
      cases hx : (List.range n).filter fun k => !listed.getD k false with
      | nil => rw [hx] at hle; cases hle
      | cons x xs =>
        have hm : x ∈ (List.range n).filter fun k => !listed.getD k false := by rw [hx]; simp
        rw [List.mem_filter] at hm
        exact ⟨x, List.mem_range.1 hm.1, by simpa using hm.2⟩
    obtain ⟨k0, hk0, hl0⟩ := hsome
    refine ⟨fun hr => ?_, fun i hi => ?_⟩
    · obtain ⟨i, _, _, hm⟩ := hmin listed hsz k0 hk0 hl0
      rw [hr] at hm
      cases hm
    obtain ⟨h0, o, ho, hall⟩ := mem_ready.1 hi
    have hin : i < n := by
      apply Classical.byContradiction
      intro hno
      have := anc_listed hcl dd i o ho hall k0 (planOkD_tail hok ho (by omega) hk0)
      rw [hl0] at this
      cases this
    have hlt : i < ops.size := by omega
    have h0' : listed.getD i false = false := by
      rw [Array.getD_eq_getD_getElem?] at h0 ⊢; rw [Array.getElem?_eq_getElem (by omega)] at h0 ⊢; exact h0
    have hap : ∀ k p, ops[k]? = some p → k < n → k ≠ i → (k < i ∧ listed.getD k false = false ∨ i < k ∧ listed.getD k false = true) → p.apart ops o = true ∨ o.apart ops p = true := by
      intro k p hp hkn hki hk
      rcases hk with ⟨hk1, hk2⟩ | ⟨hk1, hk2⟩
      · exact .inl ((planOkD_spec hok ho hin).2 k p hk1 hp (fun e he hb heq => by
          have := hall e he hb
          rw [heq, hk2] at this
          cases this))
      · exact .inr ((planOkD_spec hok hp hkn).2 i o hk1 ho (fun e he hb heq => by
          have := hcl k p hp hk2 e he hb
          rw [heq, h0'] at this
          cases this))
    have hlook : ∀ k p, ops[k]? = some p → k < n → k ≠ i → (k < i ∧ listed.getD k false = false ∨ i < k ∧ listed.getD k false = true) → ∀ t, p.dst = some t → t ∉ o.looksAt ops := by
      intro k p hp hkn hki hk t ht
      rcases hap k p hp hkn hki hk with h | h
      · exact (Oper.apart_spec h).1 t ht
      · exact (Oper.apart_spec h).2.2 t ht
    have hdoes : DoesR P ops S o (fun w => ∀ j, j < i → depB ops o j = true → phiK KS j vs (vs j) w) (phiK KS i vs) (puts ops (fun k => (vs k).v) (fun k => listed.getD k false) (List.range n) a) := by
      refine DoesR.of_looks (fun cs b => hs i o cs b ho) ?_ (hD i o hin ho vs hok0)
      intro t ht
      rw [puts_all _ n i a (by omega)]
      refine puts_get _ _ _ (fun k hk hdst => ?_) rfl rfl
      have hk := List.mem_range.1 hk
      obtain ⟨p, hp⟩ : ∃ p, ops[k]? = some p := ⟨ops[k]'(by omega), Array.getElem?_eq_getElem (by omega)⟩
      simp only [hp, Option.bind_some] at hdst
      by_cases hki : k = i
      · subst hki; simp [h0']
      · cases hl : listed.getD k false with
        | false =>
          by_cases hlt' : k < i
          · exact absurd ht (hlook k p hp hk hki (.inl ⟨hlt', hl⟩) t hdst)
          · simp [hlt']
        | true =>
          by_cases hlt' : k < i
          · simp [hlt']
          · exact absurd ht (hlook k p hp hk hki (.inr ⟨by omega, hl⟩) t hdst)
    have hkn : ∀ j, j < i → depB ops o j = true → phiK KS j vs (vs j) w := by
      intro j hj hd
      obtain ⟨p, hp⟩ : ∃ p, ops[j]? = some p := ⟨ops[j]'(by omega), Array.getElem?_eq_getElem (by omega)⟩
      unfold depB at hd
      rw [hp, Option.bind_some] at hd
      cases hdst : p.dst with
      | none => rw [hdst] at hd; cases hd
      | some t =>
        rw [hdst] at hd
        have hd' : t ∈ o.looksAt ops := by simpa using hd
        cases hl : listed.getD j false with
        | true => exact (hG.each j (by omega) hl).1
        | false => exact absurd hd' (hlook j p hp (by omega) (by omega) (.inl ⟨hj, hl⟩) t hdst)
    refine hdoes.wpOp ho hG.s hkn (fun v w' hb hv => ?_)
    have hm' : ∀ k, k ≠ i → (listed.setIfInBounds i true).getD k false = listed.getD k false := fun k hk => getD_set_ne false (Ne.symm hk)
    have hmi : (listed.setIfInBounds i true).getD i false = true := by
      have : i < listed.size := by omega
      simp [this]
    let vs' : Nat → Gt := fun j => if j = i then ⟨v, w.heap.size, w'.heap.size⟩ else vs j
    have hv' : ∀ j, j ≠ i → vs' j = vs j := fun j hj => if_neg hj
    have hvi : vs' i = ⟨v, w.heap.size, w'.heap.size⟩ := if_pos rfl
    have heq := puts_more (ops := ops) (vs := fun k => (vs' k).v) (m := fun k => listed.getD k false) (m' := fun k => (listed.setIfInBounds i true).getD k false) (i := i) (List.range n) a
      List.pairwise_lt_range (List.mem_range.2 hin) h0' hmi hm' (fun k hk hik hl t ht hkt => by
        have hk := List.mem_range.1 hk
        obtain ⟨p, hp⟩ : ∃ p, ops[k]? = some p := ⟨ops[k]'(by omega), Array.getElem?_eq_getElem (by omega)⟩
        simp only [hp, ho, Option.bind_some] at hkt ht
        rcases hap k p hp hk (by omega) (.inr ⟨hik, hl⟩) with h | h
        · exact (Oper.apart_spec h).2.1 t hkt ht
        · exact (Oper.apart_spec h).2.1 t ht hkt)
    rw [ho, Option.bind_some, puts_off (vs := fun k => (vs k).v) (vs' := fun k => (vs' k).v) (m := fun k => listed.getD k false) (List.range n) a (fun k _ hk => by
      have : k ≠ i := fun e => by subst e; rw [h0'] at hk; cases hk
      show (vs' k).v = (vs k).v
      rw [hv' k this])] at heq
    have hvv : (vs' i).v = v := by rw [hvi]
    (try dsimp only at heq)
    rw [hvv] at heq
    rw [← heq]
    have hsz' := hb.size
    have hcl' : ∀ j p, ops[j]? = some p → (listed.setIfInBounds i true).getD j false = true → ∀ e ∈ p.after, Region.binds md e = true → (listed.setIfInBounds i true).getD e.on false = true := by
      intro j p hp hj e he hb
      by_cases hji : j = i
      · subst hji
        rw [ho] at hp; cases hp
        exact getD_set_true (hall e he hb)
      · rw [hm' j hji] at hj
        exact getD_set_true (hcl j p hp hj e he hb)
    refine ih _ vs' w' (by simpa using hsz) hcl' (fun k hk => by rw [hm' k (by omega)]; exact htl k hk) ?_ ⟨hst _ _ hG.s hb, Nat.le_trans hG.n0 hsz', ?_, ?_⟩
    · have hlen : ((List.range n).filter fun k => !(listed.setIfInBounds i true).getD k false).length + 1 = ((List.range n).filter fun k => !listed.getD k false).length := by
        refine filt_one (i := i) _ List.nodup_range (List.mem_range.2 hin) (fun k hk => ?_) (by simpa using h0') (by simpa using hmi)
        rw [hm' k hk]
      omega
    · intro j hj hl
      by_cases hji : j = i
      · subst hji
        rw [hvi, phiK_congr hds (i := j) (vs := vs) (vs' := vs') (fun d o hd _ _ => hv' d (by omega))]
        exact ⟨hv, hG.n0, hsz', Nat.le_refl _⟩
      · have hl' : listed.getD j false = true := by rw [← hm' j hji]; exact hl
        obtain ⟨e1, e2, e3, e4⟩ := hG.each j hj hl'
        rw [hv' j hji, phiK_congr hds (i := j) (vs := vs) (vs' := vs') (fun d o' hd ho' hdp => hv' d (fun e => by
          subst e
          have := hdep listed htl hcl j d o' hd ho' hl' hdp
          rw [h0'] at this
          cases this))]
        exact ⟨hphi j _ _ _ _ e1 hb, e2, e3, Nat.le_trans e4 hsz'⟩
    · intro j k hj hk hlj hlk hne
      have old : ∀ j, j < n → j ≠ i → (listed.setIfInBounds i true).getD j false = true → listed.getD j false = true := fun j _ h1 h2 => by rw [← hm' j h1]; exact h2
      by_cases hji : j = i
      · subst hji
        have hkj : k ≠ j := fun e => hne e.symm
        rw [hvi, hv' k hkj]
        exact .inr (hG.each k hk (old k hk hkj hlk)).2.2.2
      · by_cases hki : k = i
        · subst hki
          rw [hvi, hv' j hji]
          exact .inl (hG.each j hj (old j hj hji hlj)).2.2.2
        · rw [hv' j hji, hv' k hki]
          exact hG.apart j k hj hk (old j hj hji hlj) (old k hk hki hlk) hne

/-- The first operations, in the text's order: each yields its value, or some value of its kind. -/
def PlanR (P : Program) (ops : Array Oper) (S : World → Prop) (KS : List KdR) (K : (Nat → Gt) → Act → Prop) : Nat → List KdR → List Oper → (Nat → Gt) → Act → Prop
  | _, _, [], vs, a => K vs a
  | _, [], _ :: _, _, _ => False
  | m, k :: ks, o :: r, vs, a => DoesR P ops S o (fun w => ∀ j, j < m → depB ops o j = true → phiK KS j vs (vs j) w) (k.phi vs) a ∧ ∀ x : Gt, k.ok vs x.v → PlanR P ops S KS K (m + 1) ks r (fun j => if j = m then x else vs j) (a.put o.dst x.v)

theorem range_from (m j : Nat) (hj : m < j) : (List.range (j - m)).map (· + m) = m :: (List.range (j - (m + 1))).map (· + (m + 1)) := by
  rw [show j - m = (j - (m + 1)) + 1 by omega, List.range_succ_eq_map, List.map_cons, List.map_map]
  congr 1
  · omega
  · apply List.map_congr_left
    intro x _
    show x + 1 + m = x + (m + 1)
    omega
theorem PlanR.take {KS : List KdR} {K : (Nat → Gt) → Act → Prop} (hds : dsOk ops KS = true) (n : Nat) : ∀ (l : List Oper) (ks : List KdR) (m : Nat) (vs0 : Nat → Gt) (a : Act), (ops.toList.take n).drop m = l → KS.drop m = ks → m ≤ n → n ≤ ops.size → PlanR P ops S KS K m ks l vs0 a →
    ∀ vs : Nat → Gt, (∀ j, j < m → vs j = vs0 j) → (∀ j, j < n → okK KS j vs) → (∀ i o, m ≤ i → i < n → ops[i]? = some o → DoesR P ops S o (fun w => ∀ j, j < i → depB ops o j = true → phiK KS j vs (vs j) w) (phiK KS i vs) (Proofs.YtcplegelppfdeaaDoor.puts ops (fun k => (vs k).v) (fun _ => true) ((List.range (i - m)).map (· + m)) a)) ∧
      ∃ vs1, (∀ j, j < n → vs1 j = vs j) ∧ K vs1 (Proofs.YtcplegelppfdeaaDoor.puts ops (fun k => (vs k).v) (fun _ => true) ((List.range (n - m)).map (· + m)) a)
  | [], ks, m, vs0, a, hl, hk, hmn, hns, h, vs, hv, hok => by
    have hn : n ≤ m := by
      have := congrArg List.length hl
      simp at this
      omega
    refine ⟨fun i o hi hin ho => by omega, vs0, fun j hj => (hv j (by omega)).symm, ?_⟩
    rw [Nat.sub_eq_zero_of_le hn]
    cases ks <;> exact h
  | o :: r, [], m, vs0, a, hl, hk, hmn, hns, h, vs, hv, hok => h.elim
  | o :: r, k :: ks, m, vs0, a, hl, hk, hmn, hns, h, vs, hv, hok => by
    have hn : m < n := by
      have := congrArg List.length hl
      simp at this
      omega
    have hdrop : (ops.toList.take n).drop m = ops[m]'(by omega) :: (ops.toList.take n).drop (m + 1) := by
      rw [List.drop_eq_getElem_cons (by simp; omega)]
      simp
    rw [hl] at hdrop
    obtain ⟨e1, e2⟩ := List.cons.inj hdrop
    have hon : ops[m]? = some o := by rw [Array.getElem?_eq_getElem (by omega), e1]
    have hmk : m < KS.length := by
      have := congrArg List.length hk
      simp at this
      omega
    rw [List.drop_eq_getElem_cons hmk] at hk
    obtain ⟨k1, k2⟩ := List.cons.inj hk
    have hKm : KS[m]? = some k := by rw [List.getElem?_eq_getElem hmk, k1]
    have hdm : ∀ d ∈ k.deps, vs d = vs0 d := fun d hd => hv d (dsOk_spec hds hKm d hd).1
    obtain ⟨hd, hr⟩ := h
    have hkm : k.ok vs0 (vs m).v := by
      have := hok m hn
      unfold okK at this
      rw [hKm] at this
      rw [← KdR.ok_congr hdm]
      exact this
    obtain ⟨h1, h2⟩ := PlanR.take hds n r ks (m + 1) _ _ e2.symm k2 (by omega) hns (hr (vs m) hkm) vs (fun j hj => by
      by_cases hjm : j = m
      · subst hjm; rw [if_pos rfl]
      · rw [if_neg hjm]; exact hv j (by omega)) hok
    have first : ∀ j, m < j → Proofs.YtcplegelppfdeaaDoor.puts ops (fun k => (vs k).v) (fun _ => true) ((List.range (j - m)).map (· + m)) a = Proofs.YtcplegelppfdeaaDoor.puts ops (fun k => (vs k).v) (fun _ => true) ((List.range (j - (m + 1))).map (· + (m + 1))) (a.put o.dst (vs m).v) := by
      intro j hj
      rw [range_from m j hj]
      show Proofs.YtcplegelppfdeaaDoor.puts ops _ (fun _ => true) _ (if true = true then a.put ((ops[m]?).bind (·.dst)) ((vs m).v) else a) = _
      rw [if_pos rfl, hon]
      rfl
    refine ⟨fun i o' hi hin ho => ?_, ?_⟩
    · by_cases him : i = m
      · subst him
        rw [hon] at ho; cases ho
        rw [Nat.sub_self]
        have e3 : (fun w => ∀ j, j < i → depB ops o j = true → phiK KS j vs (vs j) w) = (fun w => ∀ j, j < i → depB ops o j = true → phiK KS j vs0 (vs0 j) w) := by
          have hj : ∀ j, j < i → ∀ w, phiK KS j vs (vs j) w = phiK KS j vs0 (vs0 j) w := fun j hj w => by
            rw [hv j hj, phiK_congr hds (i := j) (vs := vs0) (fun d o hd _ _ => hv d (by omega))]
          funext w
          apply propext
          constructor
          · intro hh j hj2 hd; rw [← hj j hj2]; exact hh j hj2 hd
          · intro hh j hj2 hd; rw [hj j hj2]; exact hh j hj2 hd
        have e4 : phiK KS i vs = k.phi vs0 := by
          unfold phiK
          rw [hKm]
          exact KdR.phi_congr hdm
        rw [e3, e4]
        exact hd
      · rw [first i (by omega)]
        exact h1 i o' (by omega) hin ho
    · rw [first n hn]
      exact h2

theorem wp_region_planD {id : Nat} {a : Act} {w : World} (dd n : Nat) (S : World → Prop) (KS : List KdR) (hm : P.follows .mixedOrders = true) (hok : planOkD .any ops n dd = true) (hsel : Region.noSelect ops = true)
    (hseq : Region.seqB .any ops (ops.size - n) n (heads ops.size n) = true) (hds : dsOk ops KS = true) (hst : Stable S) (hF : ∀ k ∈ KS, k.Fine) (hS : S w.drew)
    (h : PlanR P ops S KS (fun vs a' => ∀ w', GotR S KS w.heap.size n (fun _ => true) vs w' → wpList P ops Q (ops.toList.drop n) a' w') 0 KS (ops.toList.take n) (fun _ => ⟨undef, 0, 0⟩) a) : (Code.region id ops true).wp P Q a w := by
  have hns := planOkD_le hok
  have hT := fun vs => PlanR.take hds n (ops.toList.take n) KS 0 _ a rfl rfl (Nat.zero_le _) hns h vs (fun j hj => absurd hj (Nat.not_lt_zero _))
  simp only [Nat.sub_zero, map_zero] at hT
  refine wp_region_any hm ?_
  have hz : ∀ k, (Array.replicate ops.size false).getD k false = false := fun k => by
    rw [Array.getD_eq_getD_getElem?, Array.getElem?_replicate]; split <;> rfl
  have hlen : (ops.toList.drop n).length = ops.size - n := by simp
  have h3 := wpAny_planR (Q := Q) (n := n) (g := ops.size - n) (N0 := w.heap.size) hok hsel hds a hst hF (fun i o hin ho vs hv => (hT vs hv).1 i o (Nat.zero_le _) hin ho)
    (fun listed vs w' hsz hl hv hG => by
      rw [heads_of hns hsz hl, ← hlen]
      obtain ⟨vs1, e4, h2⟩ := (hT vs hv).2
      refine wpAny_of_seq (ops.toList.drop n) n _ _ _ (fun j => by simp) (by rw [hlen]; exact hseq) (h2 w' ⟨hG.s, hG.n0, fun i hi hm => by rw [e4 i hi, phiK_congr hds (i := i) (vs := vs) (fun d o hd _ _ => e4 d (by omega))]; exact hG.each i hi hm, fun i j hi hj h1 h2 hne => by rw [e4 i hi, e4 j hj]; exact hG.apart i j hi hj h1 h2 hne⟩))
    n (Array.replicate ops.size false) (fun _ => ⟨undef, 0, 0⟩) w.drew (by simp) (fun i o _ hl => by rw [hz] at hl; cases hl) (fun k _ => hz k) (by
      rw [List.filter_eq_self.2 (fun k _ => by rw [hz]; rfl)]
      simp) ⟨hS, (by rw [World.size_drew]; exact Nat.le_refl _), (fun i _ hl => by rw [hz] at hl; cases hl), (fun i j _ _ hl => by rw [hz] at hl; cases hl)⟩
  have h4 : ∀ f : Nat → Value, Proofs.YtcplegelppfdeaaDoor.puts ops f (fun k => (Array.replicate ops.size false).getD k false) (List.range n) a = a := by
    intro f
    have : ∀ (ks : List Nat), Proofs.YtcplegelppfdeaaDoor.puts ops f (fun k => (Array.replicate ops.size false).getD k false) ks a = a := by
      intro ks
      induction ks with
      | nil => rfl
      | cons x xs ih =>
        unfold Proofs.YtcplegelppfdeaaDoor.puts
        rw [hz]
        exact ih
    exact this _
  rw [h4, show n + (ops.size - n) = ops.size by omega] at h3
  exact h3

theorem wp_region_planR {id : Nat} {a : Act} {w : World} (n : Nat) (S : World → Prop) (KS : List KdR) (hm : P.follows .mixedOrders = true) (hok : planOkD .any ops n 5 = true) (hsel : Region.noSelect ops = true)
    (hseq : Region.seqB .any ops (ops.size - n) n (heads ops.size n) = true) (hds : dsOk ops KS = true) (hst : Stable S) (hF : ∀ k ∈ KS, k.Fine) (hS : S w.drew)
    (h : PlanR P ops S KS (fun vs a' => ∀ w', GotR S KS w.heap.size n (fun _ => true) vs w' → wpList P ops Q (ops.toList.drop n) a' w') 0 KS (ops.toList.take n) (fun _ => ⟨undef, 0, 0⟩) a) : (Code.region id ops true).wp P Q a w :=
  wp_region_planD 5 n S KS hm hok hsel hseq hds hst hF hS h

section
variable {KS : List KdR} {K : (Nat → Gt) → Act → Prop} {m : Nat} {ks : List KdR} {vs : Nat → Gt} {o : Oper} {r : List Oper} {a : Act}
theorem PlanR.done (h : K vs a) : PlanR P ops S KS K m ks [] vs a := by
  cases ks <;> exact h
/-- One value in every world. -/
theorem PlanR.val {v : Value} (hw : Region.wanted o (yielded ops a.tmps) = true)
    (hv : ∀ w, S w → (execOp a.eval o).run P w = .ok (.value v) w)
    (h : ∀ lo hi, PlanR P ops S KS K (m + 1) ks r (fun j => if j = m then ⟨v, lo, hi⟩ else vs j) (a.put o.dst v)) : PlanR P ops S KS K m (.val v :: ks) (o :: r) vs a :=
  ⟨.inl ⟨hw, fun w hS hK => by rw [hv w hS]; exact ⟨RowKit.Below.refl _ _, rfl⟩⟩, fun x hx => by
    obtain ⟨xv, lo, hi⟩ := x
    obtain rfl : xv = v := hx
    exact h lo hi⟩
theorem PlanR.no (hw : Region.wanted o (yielded ops a.tmps) = false)
    (h : ∀ lo hi, PlanR P ops S KS K (m + 1) ks r (fun j => if j = m then ⟨undef, lo, hi⟩ else vs j) (a.put o.dst undef)) : PlanR P ops S KS K m (.val undef :: ks) (o :: r) vs a :=
  ⟨.inr ⟨hw, fun w hS _ => rfl⟩, fun x hx => by
    obtain ⟨xv, lo, hi⟩ := x
    obtain rfl : xv = undef := hx
    exact h lo hi⟩
/-- One value, off what others yielded. -/
theorem PlanR.fn {v : Value} {ds : List Nat} {f : List Value → Value} (hw : Region.wanted o (yielded ops a.tmps) = true) (hf : f (valsOf ds vs) = v)
    (hv : ∀ w, S w → (execOp a.eval o).run P w = .ok (.value v) w)
    (h : ∀ lo hi, PlanR P ops S KS K (m + 1) ks r (fun j => if j = m then ⟨v, lo, hi⟩ else vs j) (a.put o.dst v)) : PlanR P ops S KS K m (.fn ds f :: ks) (o :: r) vs a :=
  ⟨.inl ⟨hw, fun w hS hK => by rw [hv w hS]; exact ⟨RowKit.Below.refl _ _, hf.symm⟩⟩, fun x hx => by
    obtain ⟨xv, lo, hi⟩ := x
    obtain rfl : xv = v := Eq.trans (show xv = f (valsOf ds vs) from hx) hf
    exact h lo hi⟩
theorem PlanR.any {v0 : Value} {ok : Value → Prop} {p : Gt → World → Prop} (hw : Region.wanted o (yielded ops a.tmps) = true)
    (hv : ∀ w, S w → (∀ j, j < m → depB ops o j = true → phiK KS j vs (vs j) w) → OneR P w p ((execOp a.eval o).run P w))
    (h : ∀ x : Gt, ok x.v → PlanR P ops S KS K (m + 1) ks r (fun j => if j = m then x else vs j) (a.put o.dst x.v)) : PlanR P ops S KS K m (.any v0 ok p :: ks) (o :: r) vs a :=
  ⟨.inl ⟨hw, hv⟩, h⟩
end
end
end Go.Proofs.YtcplegelppfdeaaDoor
