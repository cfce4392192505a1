/-
  MemorySecrets, mathematics: how many addresses have secret bits, counted by addresses and counted along the document's row.
-/
import Derived.Test.YtoakgchfdihjbaaDoorBoth8
import Derived.Test.YtoakgchfdihjbaaDoorSecret8
set_option linter.unusedSimpArgs false
set_option linter.unusedVariables false
namespace Go.Proofs.YtoakgchfdihjbaaDoor
open Go.RowKit Go.PlainAid

theorem len_of_sub : ∀ (l1 l2 : List Int), l1.Nodup → (∀ a ∈ l1, a ∈ l2) → l1.length ≤ l2.length
  | [], _, _, _ => by simp
  | a :: r, l2, hn, hs => by
    obtain ⟨h1, h2⟩ := List.nodup_cons.1 hn
    have ha := hs a (List.mem_cons_self ..)
    have := len_of_sub r (l2.erase a) h2 (fun b hb => (List.mem_erase_of_ne (by rintro rfl; exact h1 hb)).2 (hs b (List.mem_cons_of_mem _ hb)))
    have hl := List.length_erase_of_mem ha
    have hp := List.length_pos_of_mem ha
    simp only [List.length_cons]
    omega
/-- Whether no earlier put was at the same place. -/
def firstP (L : List Pt) (k : Nat) (a : Int) : Bool := (L.take k).all fun y => y.a != a
theorem firstP_step {L : List Pt} {j : Nat} {y : Pt} (h : L[j]? = some y) (a : Int) : firstP L (j + 1) a = (firstP L j a && (y.a != a)) := by
  unfold firstP
  rw [List.take_add_one, h, Option.toList_some, List.all_append]
  simp
/-- The places of the first k puts, each once, that have secret bits. -/
def plS (M : Int → Int × Int) (L : List Pt) : Nat → List Int
  | 0 => []
  | k + 1 => match L[k]? with
    | some x => if firstP L k x.a && !((M x.a).2 == 0) then plS M L k ++ [x.a] else plS M L k
    | none => plS M L k
theorem plS_step (M : Int → Int × Int) {L : List Pt} {k : Nat} {x : Pt} (h : L[k]? = some x) : plS M L (k + 1) = if firstP L k x.a && !((M x.a).2 == 0) then plS M L k ++ [x.a] else plS M L k := by
  conv => lhs; unfold plS
  rw [h]
theorem plS_mem (M : Int → Int × Int) (L : List Pt) (a : Int) : ∀ k, k ≤ L.length → (a ∈ plS M L k ↔ (∃ y ∈ L.take k, y.a = a) ∧ ¬ (M a).2 = 0)
  | 0, _ => by simp [plS]
  | k + 1, hk => by
    have hx := List.getElem?_eq_getElem (show k < L.length by omega)
    generalize L[k] = x at hx
    have ih := plS_mem M L a k (by omega)
    rw [plS_step M hx, List.take_add_one, hx, Option.toList_some]
    have hf : firstP L k x.a = true ↔ ∀ y ∈ L.take k, y.a ≠ x.a := by
      unfold firstP
      rw [List.all_eq_true]
      simp
    by_cases hc : (firstP L k x.a && !((M x.a).2 == 0)) = true
    · rw [if_pos hc, List.mem_append, ih]
      simp only [List.mem_singleton, List.mem_append]
      rw [Bool.and_eq_true] at hc
      constructor
      · rintro (⟨⟨y, h1, h2⟩, h3⟩ | rfl)
        · exact ⟨⟨y, .inl h1, h2⟩, h3⟩
        · exact ⟨⟨x, .inr rfl, rfl⟩, by simpa using hc.2⟩
      · rintro ⟨⟨y, h1 | rfl, h2⟩, h3⟩
        · exact .inl ⟨⟨y, h1, h2⟩, h3⟩
        · exact .inr h2.symm
    · rw [if_neg hc, ih]
      simp only [List.mem_append, List.mem_singleton]
      constructor
      · rintro ⟨⟨y, h1, h2⟩, h3⟩
        exact ⟨⟨y, .inl h1, h2⟩, h3⟩
      · rintro ⟨⟨y, h1 | rfl, h2⟩, h3⟩
        · exact ⟨⟨y, h1, h2⟩, h3⟩
        · subst h2
          have hnf : ¬ firstP L k y.a = true := fun h => hc (by rw [h]; simpa using h3)
          rw [hf] at hnf
          have : ∃ z ∈ L.take k, z.a = y.a := by
            apply Classical.byContradiction
            intro hno
            exact hnf fun z hz he => hno ⟨z, hz, he⟩
          exact ⟨this, h3⟩
theorem plS_nodup (M : Int → Int × Int) (L : List Pt) : ∀ k, k ≤ L.length → (plS M L k).Nodup
  | 0, _ => by simp [plS]
  | k + 1, hk => by
    have hx := List.getElem?_eq_getElem (show k < L.length by omega)
    generalize L[k] = x at hx
    have ih := plS_nodup M L k (by omega)
    rw [plS_step M hx]
    split
    · rename_i hc
      rw [Bool.and_eq_true] at hc
      refine List.nodup_append.2 ⟨ih, by simp, fun a ha b hb => ?_⟩
      obtain rfl : b = x.a := by simpa using hb
      rintro rfl
      obtain ⟨⟨y, h1, h2⟩, _⟩ := (plS_mem M L x.a k (by omega)).1 ha
      have := List.all_eq_true.1 hc.1 y h1
      rw [h2] at this
      simp at this
    · exact ih
theorem plS_len (M : Int → Int × Int) (L : List Pt) : ∀ k, (plS M L k).length ≤ k
  | 0 => by simp [plS]
  | k + 1 => by
    have := plS_len M L k
    unfold plS
    split
    · split
      · simp; omega
      · omega
    · omega
theorem lastK_some (L : List Pt) (a : Int) : ∀ k, k ≤ L.length → lastK L a k ≠ (0, 0) → ∃ y ∈ L, y.a = a
  | 0, _, h => absurd rfl h
  | k + 1, hk, h => by
    have hx := List.getElem?_eq_getElem (show k < L.length by omega)
    rw [lastK, hx] at h
    dsimp only at h
    by_cases e : L[k].a = a
    · exact ⟨L[k], List.getElem_mem _, e⟩
    · rw [if_neg e] at h
      exact lastK_some L a k (by omega) h
noncomputable def adS (M : Int → Int × Int) (k : Nat) : List Int := (upS M k).map fun x => ((x.1 : Nat) : Int)
theorem upS_lt (M : Int → Int × Int) : ∀ k, ∀ x ∈ upS M k, x.1 < k
  | 0 => by simp [upS]
  | k + 1 => by
    intro x hx
    unfold upS at hx
    split at hx
    · rcases List.mem_append.1 hx with h | h
      · have := upS_lt M k x h; omega
      · obtain rfl : x = ⟨k, _⟩ := by simpa using h
        show k < k + 1
        omega
    · have := upS_lt M k x hx; omega
theorem adS_nodup (M : Int → Int × Int) : ∀ k, (adS M k).Nodup
  | 0 => by simp [adS, upS]
  | k + 1 => by
    have ih := adS_nodup M k
    unfold adS at ih ⊢
    unfold upS
    split
    · rw [List.map_append]
      refine List.nodup_append.2 ⟨ih, by simp, fun a ha b hb => ?_⟩
      obtain ⟨x, hx, rfl⟩ := List.mem_map.1 ha
      obtain rfl : b = (k : Int) := by simpa using hb
      have := upS_lt M k x hx
      omega
    · exact ih
theorem adS_mem (M : Int → Int × Int) (j : Nat) (hj : j < 65536) (h : ¬ (M (j : Int)).2 = 0) : ∀ k, j < k → (j : Int) ∈ adS M k
  | 0, h0 => absurd h0 (by omega)
  | k + 1, hk => by
    unfold adS
    by_cases e : j = k
    · subst e
      rw [upS_yes M j ⟨hj, h⟩, List.map_append]
      exact List.mem_append.2 (.inr (by simp))
    · have ih := adS_mem M j hj h k (by omega)
      unfold adS at ih
      unfold upS
      split
      · rw [List.map_append]
        exact List.mem_append.2 (.inl ih)
      · exact ih
/-- As many, either way. -/
theorem count_same {M : Int → Int × Int} {L : List Pt} (h : Good M L) : (upS M 65536).length = (plS M L L.length).length := by
  have e : (upS M 65536).length = (adS M 65536).length := by unfold adS; rw [List.length_map]
  rw [e]
  refine Nat.le_antisymm (len_of_sub _ _ (adS_nodup M _) fun a ha => ?_) (len_of_sub _ _ (plS_nodup M L _ (Nat.le_refl _)) fun a ha => ?_)
  · unfold adS at ha
    obtain ⟨x, hx, rfl⟩ := List.mem_map.1 ha
    have hT := x.2.2
    refine (plS_mem M L _ _ (Nat.le_refl _)).2 ⟨?_, hT⟩
    have hr : realB ((x.1 : Nat) : Int) = true := by
      cases hr : realB ((x.1 : Nat) : Int)
      · rw [h.out _ hr] at hT; exact absurd rfl hT
      · rfl
    have hl := h.co _ hr
    have hne : lastP L ((x.1 : Nat) : Int) ≠ (0, 0) := fun e => by rw [hl] at e; rw [e] at hT; exact hT rfl
    rw [List.take_length]
    exact lastK_some L _ _ (Nat.le_refl _) hne
  · obtain ⟨⟨y, hy, rfl⟩, h3⟩ := (plS_mem M L _ _ (Nat.le_refl _)).1 ha
    have hr : realB y.a = true := by
      cases hr : realB y.a
      · rw [h.out _ hr] at h3; exact absurd rfl h3
      · rfl
    have hb : 0 ≤ y.a ∧ y.a < 65536 := by unfold realB ramB romB at hr; simp at hr; omega
    obtain ⟨j, hj⟩ : ∃ j : Nat, y.a = (j : Int) := ⟨y.a.toNat, by omega⟩
    rw [hj] at h3 ⊢
    exact adS_mem M j (by omega) h3 65536 (by omega)
/-- Whether addresses rise, and the last one. -/
def stS {M : Int → Int × Int} (l : List (SecB M)) : Bool × Int := l.foldl (fun s x => (s.1 && decide (s.2 < ((x.1 : Nat) : Int)), ((x.1 : Nat) : Int))) (true, -1)
theorem stS_snoc {M : Int → Int × Int} (l : List (SecB M)) (x : SecB M) : stS (l ++ [x]) = ((stS l).1 && decide ((stS l).2 < ((x.1 : Nat) : Int)), ((x.1 : Nat) : Int)) := by unfold stS; rw [List.foldl_append]; rfl
theorem stS_up (M : Int → Int × Int) : ∀ k, (stS (upS M k)).1 = true ∧ (stS (upS M k)).2 < k
  | 0 => ⟨rfl, by show (-1 : Int) < ((0 : Nat) : Int); decide⟩
  | k + 1 => by
    obtain ⟨h1, h2⟩ := stS_up M k
    by_cases hh : k < 65536 ∧ ¬ (M (k : Int)).2 = 0
    · rw [upS_yes M k hh, stS_snoc]
      exact ⟨by simp [h1, h2], by show (k : Int) < ((k + 1 : Nat) : Int); omega⟩
    · have e : upS M (k + 1) = upS M k := by
        conv => lhs; unfold upS
        rw [dif_neg hh]
      rw [e]
      exact ⟨h1, by omega⟩
theorem stS_bad {M : Int → Int × Int} {l : List (SecB M)} {x : SecB M} (h : decide (((x.1 : Nat) : Int) ≤ (stS l).2) = true) : (stS (l ++ [x])).1 = false := by
  have h := of_decide_eq_true h
  rw [stS_snoc]
  show ((stS l).1 && decide ((stS l).2 < ((x.1 : Nat) : Int))) = false
  rw [decide_eq_false (by omega), Bool.and_false]
theorem stS_good {M : Int → Int × Int} {l : List (SecB M)} {x : SecB M} (h1 : (stS l).1 = true) (h : decide (((x.1 : Nat) : Int) ≤ (stS l).2) = false) : (stS (l ++ [x])).1 = true := by
  have h := of_decide_eq_false h
  rw [stS_snoc]
  show ((stS l).1 && decide ((stS l).2 < ((x.1 : Nat) : Int))) = true
  rw [h1, decide_eq_true (by omega)]; rfl
/-- One byte turned: the memories are the same just if the byte is. -/
theorem same_one (M : Int → Int × Int) (k : Nat) (hk : k < 65536) (x : Int × Int) : sameM M (setM M k x) = sameI (M k) x := by
  rw [Bool.eq_iff_iff, sameM_iff]
  constructor
  · intro h
    have := h k hk
    rwa [setM_at] at this
  · intro h j hj
    by_cases e : j = k
    · subst e; rw [setM_at]; exact h
    · unfold setM
      rw [if_neg (by omega)]
      exact sameI_refl _
end Go.Proofs.YtoakgchfdihjbaaDoor
