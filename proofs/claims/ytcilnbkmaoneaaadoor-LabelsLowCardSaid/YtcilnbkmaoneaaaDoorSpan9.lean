/-
  Which bits of an address spans tell, and what a table is filled with.
-/
import Derived.Test.YtcilnbkmaoneaaaDoorMark9
set_option linter.unusedSimpArgs false
set_option linter.unusedVariables false
namespace Go.Proofs.YtcilnbkmaoneaaaDoor
open Go.RowKit Go.PlainAid

def onB (x : Sp) (k : Int) : Bool := decide (x.f ≤ k) && decide (k ≤ x.t)
theorem onB_iff {x : Sp} {k : Int} : onB x k = true ↔ x.f ≤ k ∧ k ≤ x.t := by unfold onB; simp
theorem onB_not {x : Sp} {k : Int} : onB x k = false ↔ ¬ (x.f ≤ k ∧ k ≤ x.t) := by rw [← onB_iff]; simp
/-- The bits of the first span in which an address lies. -/
def bitsR : List Sp → Int → Int
  | [], _ => 0
  | x :: r, k => if onB x k then x.b else bitsR r k
def markF (M : Int → Int) (x : Sp) : Int → Int := fun k => if onB x k then x.b else M k
def fillF (M : Int → Int) (l : List Sp) : Int → Int := l.foldl markF M
def nilF : Int → Int := fun _ => 0
theorem fillF_snoc (M : Int → Int) (l : List Sp) (x : Sp) : fillF M (l ++ [x]) = markF (fillF M l) x := by unfold fillF; rw [List.foldl_append]; rfl
/-- No two spans have an address both. -/
def Uq (l : List Sp) : Prop := ∀ x ∈ l, ∀ y ∈ l, ∀ k, onB x k = true → onB y k = true → x = y
theorem meet_of_on {x y : Sp} {k : Int} (h : onB x k = true) (g : onB y k = true) : meetB x y = true := by
  rw [onB_iff] at h g
  unfold meetB
  simp; omega
theorem uq_of : ∀ {l : List Sp}, l.Pairwise (fun x y => meetB x y = false) → Uq l
  | [], _ => fun x hx => by simp at hx
  | a :: r, h => by
    obtain ⟨h1, h2⟩ := List.pairwise_cons.1 h
    intro x hx y hy k kx ky
    rcases List.mem_cons.1 hx with e1 | hx1
    · rcases List.mem_cons.1 hy with e2 | hy1
      · rw [e1, e2]
      · have := h1 y hy1; rw [← e1, meet_of_on kx ky] at this; cases this
    · rcases List.mem_cons.1 hy with e2 | hy1
      · have := h1 x hx1; rw [← e2, meet_of_on ky kx] at this; cases this
      · exact uq_of h2 x hx1 y hy1 k kx ky
theorem bitsR_ways : ∀ (l : List Sp) (k : Int), (bitsR l k = 0 ∧ ∀ x ∈ l, onB x k = false) ∨ ∃ x ∈ l, onB x k = true ∧ bitsR l k = x.b
  | [], k => .inl ⟨rfl, fun x hx => by simp at hx⟩
  | a :: r, k => by
    unfold bitsR
    by_cases h : onB a k = true
    · exact .inr ⟨a, by simp, h, if_pos h⟩
    · rw [if_neg h]
      rcases bitsR_ways r k with ⟨h1, h2⟩ | ⟨x, h1, h2, h3⟩
      · refine .inl ⟨h1, fun x hx => ?_⟩
        rcases List.mem_cons.1 hx with rfl | hx
        · simpa using h
        · exact h2 x hx
      · exact .inr ⟨x, by simp [h1], h2, h3⟩
theorem bitsR_some {l : List Sp} (hu : Uq l) {x : Sp} (hx : x ∈ l) {k : Int} (h : onB x k = true) : bitsR l k = x.b := by
  rcases bitsR_ways l k with ⟨_, h2⟩ | ⟨y, h1, h2, h3⟩
  · rw [h2 x hx] at h; cases h
  · rw [h3, hu x hx y h1 k h h2]
theorem bitsR_none {l : List Sp} {k : Int} (h : ∀ x ∈ l, onB x k = false) : bitsR l k = 0 := by
  rcases bitsR_ways l k with ⟨h1, _⟩ | ⟨y, h1, h2, h3⟩
  · exact h1
  · rw [h y h1] at h2; cases h2
theorem bits_same {l m : List Sp} (hu : Uq l) (hm : ∀ x, x ∈ m ↔ x ∈ l) (k : Int) : bitsR m k = bitsR l k := by
  rcases bitsR_ways m k with ⟨h1, h2⟩ | ⟨y, h1, h2, h3⟩
  · rw [h1, bitsR_none fun x hx => h2 x ((hm x).2 hx)]
  · rw [h3, bitsR_some hu ((hm y).1 h1) h2]
theorem fill_ways : ∀ (l : List Sp) (M : Int → Int), Uq l → ∀ k, fillF M l k = if (∀ x ∈ l, onB x k = false) then M k else bitsR l k
  | [], M, _, k => by rw [if_pos (fun x hx => by simp at hx)]; rfl
  | a :: r, M, hu, k => by
    have hr : Uq r := fun x hx y hy => hu x (by simp [hx]) y (by simp [hy])
    show fillF (markF M a) r k = _
    rw [fill_ways r (markF M a) hr k]
    by_cases h : onB a k = true
    · have hn : ¬ ∀ x ∈ a :: r, onB x k = false := fun hh => by rw [hh a (by simp)] at h; cases h
      rw [if_neg hn, bitsR_some hu (by simp) h]
      split
      · unfold markF; rw [if_pos h]
      · rcases bitsR_ways r k with ⟨h1, h2⟩ | ⟨y, h1, h2, h3⟩
        · rename_i hh; exact absurd h2 hh
        · rw [h3, hu a (by simp) y (by simp [h1]) k h h2]
    · have h' : onB a k = false := by simpa using h
      have e : bitsR (a :: r) k = bitsR r k := by conv => lhs; unfold bitsR
                                                  rw [if_neg h]
      rw [e]
      by_cases hh : ∀ x ∈ r, onB x k = false
      · rw [if_pos hh, if_pos (fun x hx => by rcases List.mem_cons.1 hx with rfl | hx; exact h'; exact hh x hx)]
        unfold markF; rw [if_neg h]
      · rw [if_neg hh, if_neg (fun g => hh fun x hx => g x (by simp [hx]))]
theorem fill_bits {l : List Sp} (hu : Uq l) (k : Int) : fillF nilF l k = bitsR l k := by
  rw [fill_ways l nilF hu k]
  split
  · rename_i h; rw [bitsR_none h]; rfl
  · rfl
/-- Spans of a policy that may be. -/
structure Gd (l : List Sp) : Prop where
  lies : ∀ x ∈ l, 0 ≤ x.f ∧ x.f ≤ x.t ∧ x.t ≤ 65535 ∧ (x.t ≤ 32767 ∨ 49152 ≤ x.f)
  bits : ∀ x ∈ l, ¬ x.b = 0
  pw : l.Pairwise (fun x y => meetB x y = false)
  few : l.length ≤ 64
theorem Gd.uq {l : List Sp} (h : Gd l) : Uq l := uq_of h.pw
theorem good_of {p : Pol} (h : checkM p = 0) : Gd p.s ∧ Gd p.k := by
  rw [check_zero] at h
  obtain ⟨⟨h1, h2, h3⟩, -⟩ := h
  unfold markS at h1 h2 h3
  rw [List.pairwise_append] at h3
  obtain ⟨h4, h5, -⟩ := h3
  rw [List.pairwise_map] at h4 h5
  have hl : ∀ (x : Sp) (k : Bool), liesB x k = true → 0 ≤ x.f ∧ x.f ≤ x.t ∧ x.t ≤ 65535 ∧ (x.t ≤ 32767 ∨ 49152 ≤ x.f) := fun x k h => by
    unfold liesB at h
    simp only [Bool.and_eq_true, Bool.or_eq_true, decide_eq_true_eq] at h
    omega
  simp only [List.length_append, List.length_map] at h2
  refine ⟨⟨fun x hx => hl x false (h1 ⟨x, false⟩ ?_).1, fun x hx => (h1 ⟨x, false⟩ ?_).2, h4, by omega⟩, ⟨fun x hx => hl x true (h1 ⟨x, true⟩ ?_).1, fun x hx => (h1 ⟨x, true⟩ ?_).2, h5, by omega⟩⟩
  all_goals first
    | exact List.mem_append_left _ (List.mem_map.2 ⟨x, hx, rfl⟩)
    | exact List.mem_append_right _ (List.mem_map.2 ⟨x, hx, rfl⟩)
theorem Gd.sort {l : List Sp} (h : Gd l) : Gd (sortS l) := by
  have hm : ∀ x, x ∈ sortS l ↔ x ∈ l := fun x => (sortS_perm l).mem_iff
  exact ⟨fun x hx => h.lies x ((hm x).1 hx), fun x hx => h.bits x ((hm x).1 hx), ((sortS_perm l).pairwise_iff (fun hxy => meetB_symm hxy)).2 h.pw, by rw [(sortS_perm l).length_eq]; exact h.few⟩
theorem Gd.bits_sort {l : List Sp} (h : Gd l) (k : Int) : bitsR (sortS l) k = bitsR l k := bits_same h.uq (fun x => (sortS_perm l).mem_iff) k
/-- What a table is filled with: its sorted spans, one by one. -/
theorem Gd.fill {l : List Sp} (h : Gd l) (k : Int) : fillF nilF (sortS l) k = bitsR l k := by rw [fill_bits h.sort.uq, h.bits_sort]
theorem bits_out {l : List Sp} (h : Gd l) {k : Int} (hk : ¬ (0 ≤ k ∧ k < 65536)) : bitsR l k = 0 := bitsR_none fun x hx => by
  have := h.lies x hx
  rw [onB_not]; omega
theorem bits_dev {l : List Sp} (h : Gd l) {k : Int} (hk : ¬ bitsR l k = 0) : (0 ≤ k ∧ k < 32768) ∨ (49152 ≤ k ∧ k < 65536) := by
  rcases bitsR_ways l k with ⟨h1, _⟩ | ⟨y, h1, h2, _⟩
  · exact absurd h1 hk
  · have := h.lies y h1
    rw [onB_iff] at h2; omega
theorem bits_u8 {l : List Sp} (h : ∀ x ∈ l, 0 ≤ x.b ∧ x.b ≤ 255) (k : Int) : 0 ≤ bitsR l k ∧ bitsR l k ≤ 255 := by
  rcases bitsR_ways l k with ⟨h1, _⟩ | ⟨y, h1, _, h3⟩
  · rw [h1]; omega
  · rw [h3]; exact h y h1
/-- All spans of a list that rise lie apart. -/
theorem sorted_apart {l : List Sp} (hs : SortL (fun y : Sp => y.f) l) (hg : Gd l) {i j : Nat} (hij : i < j) (hj : j < l.length) : (l[i]'(by omega)).t < l[j].f := by
  have h1 : (l[i]'(by omega)).f ≤ l[j].f := List.pairwise_iff_getElem.1 hs i j (by omega) hj hij
  have h2 := hg.lies _ (List.getElem_mem hj)
  have h3 : meetB (l[i]'(by omega)) l[j] = false := List.pairwise_iff_getElem.1 hg.pw i j (by omega) hj hij
  unfold meetB at h3
  simp at h3
  omega
end Go.Proofs.YtcilnbkmaoneaaaDoor
