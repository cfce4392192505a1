/-
  A region that draws its order, within a round of a range over a function: as the plan has it.
-/
import Derived.Test.YtcilnbkmaoneaaaDoorPlanR
import Derived.OrdersIn
import Derived.RangeFuncCalls
set_option linter.unusedSimpArgs false
set_option linter.unusedVariables false
namespace Go.Proofs.YtcilnbkmaoneaaaDoor
open Go

section
variable {P : Program} {ops : Array Oper} {Q : Exit → Act → World → Prop} {md : Region.Mode} {S : World → Prop} {lr nn : Nat}

def noDefer (ops : Array Oper) : Bool := ops.all fun o => match o.op with
  | .defer _ => false
  | _ => true
theorem noDefer_spec (h : noDefer ops = true) {i : Nat} {o : Oper} (ho : ops[i]? = some o) : ∀ c, o.op ≠ .defer c := by
  intro c hc
  have := Array.all_eq_true_iff_forall_mem.1 h o (Array.mem_of_getElem? ho)
  rw [hc] at this
  cases this
theorem Does.wpOpIn (lr nn : Nat) {i : Nat} {o : Oper} {v : Value} {a : Act} (hd : Does P ops S o v a) (hi : ops[i]? = some o) (hnd : ∀ c, o.op ≠ .defer c)
    {K : Act → World → Prop} {w : World} (hS : S w) (h : ∀ w', S w' → K (a.put o.dst v) w') : Go.wpOpIn (Fence.wide.inRound lr) nn P ops Q i K a w := by
  unfold Go.wpOpIn
  simp only [hi]
  rcases hd with ⟨hw, hv⟩ | ⟨hw, rfl⟩
  · simp only [hw, if_true]
    have h1 := hv w hS
    unfold Oper.wpIn
    rw [Oper.semAt_eq _ _ _ hnd]
    refine ⟨fun _ _ => trivial, ?_⟩
    generalize (execOp a.eval o).run P w = r at *
    cases r with
    | ok n w' =>
      cases n <;> simp only [One] at h1
      case value u =>
        obtain ⟨rfl, h2⟩ := h1
        exact h w' h2
      case enter f args =>
        rw [Oper.uponIn_enter]
        refine ⟨fun h => by simp [Fence.wide, Fence.inRound] at h, ?_⟩
        exact CallsIn.inRound lr (callsIn_wide.2 (Calls.mono h1 fun e w'' he => by obtain ⟨rfl, h2⟩ := he; exact h w'' h2))
    | halt x w' => simp only [One] at h1
  · simp only [hw, Bool.false_eq_true, if_false]
    exact ⟨fun _ _ => trivial, h w hS⟩
theorem wpAnyIn_plan (hnd : noDefer ops = true) (hok : planOk md ops = true) (hsel : Region.noSelect ops = true) (vs : Nat → Value) (a : Act)
    (hD : ∀ i o, ops[i]? = some o → Does P ops S o (vs i) (puts ops vs (fun _ => true) (List.range i) a))
    (hQ : ∀ w', S w' → Q .normal (puts ops vs (fun _ => true) (List.range ops.size) a) w') :
    ∀ (fuel : Nat) (listed : Array Bool) (w : World), listed.size = ops.size →
      (∀ i o, ops[i]? = some o → listed.getD i false = true → ∀ e ∈ o.after, Region.binds md e = true → listed.getD e.on false = true) →
      ((List.range ops.size).filter fun k => !listed.getD k false).length ≤ fuel → S w →
      wpAnyIn (Fence.wide.inRound lr) nn P md ops Q fuel listed (puts ops vs (fun k => listed.getD k false) (List.range ops.size) a) w := by
  have hs := Region.noSelect_spec hsel
  have hend : ∀ (listed : Array Bool), listed.size = ops.size → Region.ready md ops listed = [] → ∀ k, k < ops.size → listed.getD k false = true := by
    intro listed hsz hr k
    induction k using Nat.strongRecOn with
    | _ k ih =>
      intro hk
      cases hl : listed.getD k false with
      | true => rfl
      | false =>
        have hmem : k ∈ Region.ready md ops listed := by
          rw [mem_ready]
          refine ⟨by rw [Array.getD_eq_getD_getElem?] at hl ⊢; rw [Array.getElem?_eq_getElem (by omega)] at hl ⊢; exact hl, ops[k], Array.getElem?_eq_getElem hk, fun e he hb => ?_⟩
          have := (planOk_spec hok (Array.getElem?_eq_getElem hk)).1 e he hb
          exact ih e.on this (by omega)
        rw [hr] at hmem
        cases hmem
  have hfin : ∀ (listed : Array Bool) (w : World), listed.size = ops.size → S w → Region.ready md ops listed = [] → Q .normal (puts ops vs (fun k => listed.getD k false) (List.range ops.size) a) w := by
    intro listed w hsz hS hr
    rw [puts_congr (m2 := fun _ => true) (List.range ops.size) a (fun k hk => hend listed hsz hr k (List.mem_range.1 hk))]
    exact hQ w hS
  intro fuel
  induction fuel with
  | zero =>
    intro listed w hsz hcl hle hS
    have hr : Region.ready md ops listed = [] := by
      cases hx : Region.ready md ops listed with
      | nil => rfl
      | cons x xs =>
        have hm : x ∈ Region.ready md ops listed := by rw [hx]; simp
        obtain ⟨h0, o, ho, _⟩ := mem_ready.1 hm
        have hlt : x < ops.size := (Array.getElem?_eq_some_iff.1 ho).1
        have hmf : x ∈ (List.range ops.size).filter fun k => !listed.getD k false := by
          rw [List.mem_filter]
          refine ⟨List.mem_range.2 hlt, ?_⟩
          rw [Array.getD_eq_getD_getElem?] at h0 ⊢; rw [Array.getElem?_eq_getElem (by omega)] at h0 ⊢
          simpa using h0
        rw [List.length_eq_zero_iff.1 (Nat.le_zero.1 hle)] at hmf
        cases hmf
    exact ⟨hr, hfin listed w hsz hS hr⟩
  | succ fuel ih =>
    intro listed w hsz hcl hle hS
    refine ⟨hfin listed w hsz hS, fun i hi => ?_⟩
    obtain ⟨h0, o, ho, hall⟩ := mem_ready.1 hi
    have hlt : i < ops.size := (Array.getElem?_eq_some_iff.1 ho).1
    have h0' : listed.getD i false = false := by
      rw [Array.getD_eq_getD_getElem?] at h0 ⊢; rw [Array.getElem?_eq_getElem (by omega)] at h0 ⊢; exact h0
    -- whoever is on the other side of i than in the text is apart from it
    have hap : ∀ k p, ops[k]? = some p → k ≠ i → (k < i ∧ listed.getD k false = false ∨ i < k ∧ listed.getD k false = true) → p.apart ops o = true ∨ o.apart ops p = true := by
      intro k p hp hki hk
      rcases hk with ⟨hk1, hk2⟩ | ⟨hk1, hk2⟩
      · exact .inl ((planOk_spec hok ho).2 k p hk1 hp (fun e he hb heq => by
          have := hall e he hb
          rw [heq, hk2] at this
          cases this))
      · exact .inr ((planOk_spec hok hp).2 i o hk1 ho (fun e he hb heq => by
          have := hcl k p hp hk2 e he hb
          rw [heq, h0'] at this
          cases this))
    have hlook : ∀ k p, ops[k]? = some p → k ≠ i → (k < i ∧ listed.getD k false = false ∨ i < k ∧ listed.getD k false = true) → ∀ t, p.dst = some t → t ∉ o.looksAt ops := by
      intro k p hp hki hk t ht
      rcases hap k p hp hki hk with h | h
      · exact (Oper.apart_spec h).1 t ht
      · exact (Oper.apart_spec h).2.2 t ht
    -- the frame as the operation meets it, and as the text has it
    have hdoes : Does P ops S o (vs i) (puts ops vs (fun k => listed.getD k false) (List.range ops.size) a) := by
      refine Does.of_looks (fun cs b => hs i o cs b ho) ?_ (hD i o ho)
      intro t ht
      have hsplit : puts ops vs (fun _ => true) (List.range i) a = puts ops vs (fun k => decide (k < i)) (List.range ops.size) a := by
        obtain ⟨n, hn⟩ : ∃ n, ops.size = i + n := ⟨ops.size - i, by omega⟩
        rw [hn]
        clear hn
        induction n with
        | zero => exact puts_congr _ _ (fun k hk => by simp [List.mem_range.1 hk])
        | succ n ihn =>
          rw [ihn, ← Nat.add_assoc, List.range_succ]
          have happ : ∀ (l1 l2 : List Nat) (m : Nat → Bool) (b : Act), puts ops vs m (l1 ++ l2) b = puts ops vs m l2 (puts ops vs m l1 b) := by
            intro l1
            induction l1 with
            | nil => intros; rfl
            | cons x xs ihx => intro l2 m b; exact ihx l2 m _
          rw [happ]
          have : decide (i + n < i) = false := by simp
          simp [puts, this]
      rw [hsplit]
      refine puts_get _ _ _ (fun k hk hdst => ?_) rfl rfl
      have hk := List.mem_range.1 hk
      obtain ⟨p, hp⟩ : ∃ p, ops[k]? = some p := ⟨ops[k], Array.getElem?_eq_getElem hk⟩
      simp only [hp, Option.bind_some] at hdst
      by_cases hki : k = i
      · subst hki; simp [h0']
      · cases hl : listed.getD k false with
        | false =>
          by_cases hlt' : k < i
          · exact absurd ht (hlook k p hp hki (.inl ⟨hlt', hl⟩) t hdst)
          · simp [hlt']
        | true =>
          by_cases hlt' : k < i
          · simp [hlt']
          · exact absurd ht (hlook k p hp hki (.inr ⟨by omega, hl⟩) t hdst)
    refine hdoes.wpOpIn lr nn ho (noDefer_spec hnd ho) hS (fun w' hS' => ?_)
    have hm' : ∀ k, k ≠ i → (listed.setIfInBounds i true).getD k false = listed.getD k false := fun k hk => getD_set_ne false (Ne.symm hk)
    have hmi : (listed.setIfInBounds i true).getD i false = true := by
      have : i < listed.size := by omega
      simp [this]
    have heq := puts_more (ops := ops) (vs := vs) (m := fun k => listed.getD k false) (m' := fun k => (listed.setIfInBounds i true).getD k false) (i := i) (List.range ops.size) a
      List.pairwise_lt_range (List.mem_range.2 hlt) h0' hmi hm' (fun k hk hik hl t ht hkt => by
        have hk := List.mem_range.1 hk
        obtain ⟨p, hp⟩ : ∃ p, ops[k]? = some p := ⟨ops[k], Array.getElem?_eq_getElem hk⟩
        simp only [hp, ho, Option.bind_some] at hkt ht
        rcases hap k p hp (by omega) (.inr ⟨hik, hl⟩) with h | h
        · exact (Oper.apart_spec h).2.1 t hkt ht
        · exact (Oper.apart_spec h).2.1 t ht hkt)
    rw [ho, Option.bind_some] at heq
    rw [← heq]
    refine ih _ w' (by simpa using hsz) ?_ ?_ hS'
    · intro j p hp hj e he hb
      by_cases hji : j = i
      · subst hji
        rw [ho] at hp; cases hp
        exact getD_set_true (hall e he hb)
      · rw [hm' j hji] at hj
        exact getD_set_true (hcl j p hp hj e he hb)
    · have hlen : ((List.range ops.size).filter fun k => !(listed.setIfInBounds i true).getD k false).length < ((List.range ops.size).filter fun k => !listed.getD k false).length := by
        refine filt_lt (i := i) _ (List.mem_range.2 hlt) (fun k hk => ?_) (by simpa using h0') (by simpa using hmi)
        by_cases hki : k = i
        · subst hki; simpa using h0'
        · rw [hm' k hki] at hk; exact hk
      omega
theorem wpIn_region_plan {id : Nat} {a : Act} {w : World} (S : World → Prop) (hnd : noDefer ops = true) (hm : P.follows .mixedOrders = true) (hok : planOk .any ops = true) (hsel : Region.noSelect ops = true) (hS : S w.drew)
    (h : Plan P ops S (fun a' => ∀ w', S w' → Q .normal a' w') ops.toList a) : (Code.region id ops true).wpIn (Fence.wide.inRound lr) nn P Q a w := by
  obtain ⟨vs, h1, h2⟩ := Plan.puts ops.toList 0 a rfl h
  refine wpIn_region_any hm ?_
  have hz : ∀ k, (Array.replicate ops.size false).getD k false = false := fun k => by
    rw [Array.getD_eq_getD_getElem?, Array.getElem?_replicate]; split <;> rfl
  have h3 := wpAnyIn_plan (Q := Q) (lr := lr) (nn := nn) hnd hok hsel vs a (fun i o ho => by have := h1 i o (Nat.zero_le _) ho; rwa [Nat.sub_zero, map_zero] at this) (by rwa [Nat.sub_zero, map_zero] at h2)
    ops.size (Array.replicate ops.size false) w.drew (by simp) (fun i o _ hl => by rw [hz] at hl; cases hl) (by
      refine Nat.le_trans (List.length_filter_le _ _) ?_
      simp) hS
  have h4 : Proofs.YtcilnbkmaoneaaaDoor.puts ops vs (fun k => (Array.replicate ops.size false).getD k false) (List.range ops.size) a = a := by
    have : ∀ (ks : List Nat), Proofs.YtcilnbkmaoneaaaDoor.puts ops vs (fun k => (Array.replicate ops.size false).getD k false) ks a = a := by
      intro ks
      induction ks with
      | nil => rfl
      | cons x xs ih =>
        unfold Proofs.YtcilnbkmaoneaaaDoor.puts
        rw [hz]
        exact ih
    exact this _
  rw [h4] at h3
  exact h3
end
end Go.Proofs.YtcilnbkmaoneaaaDoor
