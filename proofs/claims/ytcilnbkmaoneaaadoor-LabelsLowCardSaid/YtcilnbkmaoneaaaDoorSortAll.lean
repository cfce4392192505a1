/-
  A stable sort by keys, over arrays: blocks that change places, merging, and that a sorted list is known by what has each key.
  A stable sort by keys, over arrays: what two sorted parts come to, merged; sorting by insertion; blocks.
  Layer 7, the library's stable sort: two parts of a row that change places.
  Layer 7, the library's stable sort: two parts side by side that change places.
  Layer 7, the library's stable sort: one element put into a sorted part, from the left, and from the right.
  Layer 7, the library's stable sort: two sorted parts side by side, merged.
  Layer 7, the library's stable sort: the whole of it.
-/
import Derived.Sort.Defs
import Derived.Sort.Statements
import Derived.Sort.Row
import Derived.Sort.LotA
import Derived.Test.YtcilnbkmaoneaaaDoorSpan
import Derived.Shelf.SlSortCmp.KitK
import Derived.Deep.LoopGhost
import Derived.Deep.DeepCutAuto
set_option linter.unusedSimpArgs false
set_option linter.unusedVariables false
set_option linter.unusedSectionVars false
namespace Go.Proofs.YtcilnbkmaoneaaaDoor

section
variable {α : Type} [Inhabited α] (key : α → Int)
def SortK (d : Array α) (a b : Nat) : Prop := ∀ i j, a ≤ i → i ≤ j → j < b → key d[i]! ≤ key d[j]!
def SameL (l l' : List α) : Prop := ∀ k : Int, l'.filter (fun x => decide (key x = k)) = l.filter (fun x => decide (key x = k))
/-- d' is d, but that what lies from a to b stands in another order there; what has one key stands in the same order. -/
structure Mrg (a b : Nat) (d d' : Array α) : Prop where
  size : d'.size = d.size
  out : ∀ x, x < a ∨ b ≤ x → d'[x]! = d[x]!
  inn : ∀ x, a ≤ x → x < b → ∃ y, a ≤ y ∧ y < b ∧ d'[x]! = d[y]!
  same : SameL key d.toList d'.toList
/-- What lies from a to m, and from m to b, change places. -/
structure Rot (a m b : Nat) (d d' : Array α) : Prop where
  size : d'.size = d.size
  at' : ∀ x, d'[x]! = if a ≤ x ∧ x < a + (b - m) then d[x + (m - a)]! else if a + (b - m) ≤ x ∧ x < b then d[x - (b - m)]! else d[x]!
theorem SameL.refl (l : List α) : SameL key l l := fun _ => rfl
variable {key} in
theorem SameL.trans {a b c : List α} (h : SameL key a b) (g : SameL key b c) : SameL key a c := fun k => (g k).trans (h k)
theorem Mrg.refl (a b : Nat) (d : Array α) : Mrg key a b d d := ⟨rfl, fun _ _ => rfl, fun x h1 h2 => ⟨x, h1, h2, rfl⟩, SameL.refl key _⟩
variable {key} in
theorem Mrg.trans {a b : Nat} {d e f : Array α} (h : Mrg key a b d e) (g : Mrg key a b e f) : Mrg key a b d f :=
  ⟨g.size.trans h.size, fun x hx => (g.out x hx).trans (h.out x hx), fun x h1 h2 => by
    obtain ⟨y, y1, y2, e1⟩ := g.inn x h1 h2
    obtain ⟨z, z1, z2, e2⟩ := h.inn y y1 y2
    exact ⟨z, z1, z2, e1.trans e2⟩, h.same.trans g.same⟩
variable {key} in
theorem Mrg.wide {a b a' b' : Nat} {d e : Array α} (h : Mrg key a b d e) (ha : a' ≤ a) (hb : b ≤ b') : Mrg key a' b' d e :=
  ⟨h.size, fun x hx => h.out x (by omega), fun x h1 h2 => by
    by_cases hx : a ≤ x ∧ x < b
    · obtain ⟨y, y1, y2, e1⟩ := h.inn x hx.1 hx.2
      exact ⟨y, by omega, by omega, e1⟩
    · exact ⟨x, h1, h2, h.out x (by omega)⟩, h.same⟩
variable {key} in
theorem SortK.same {a b : Nat} {d e : Array α} (h : SortK key d a b) (g : ∀ x, a ≤ x → x < b → e[x]! = d[x]!) : SortK key e a b := fun i j h1 h2 h3 => by
  rw [g i h1 (by omega), g j (by omega) h3]; exact h i j h1 h2 h3
theorem bang_get (d : Array α) (x : Nat) (h : x < d.size) : d.toList[x]? = some d[x]! := by
  rw [getElem!_pos d x h]; simp [h]
/-- What two lists come to, the one being the other with two of its parts changed. -/
theorem rot_lists {L L' : List α} {a m b : Nat} (ham : a ≤ m) (hmb : m ≤ b) (hb : b ≤ L.length) (hl : L'.length = L.length)
    (h : ∀ x, x < L.length → L'[x]? = if a ≤ x ∧ x < a + (b - m) then L[x + (m - a)]? else if a + (b - m) ≤ x ∧ x < b then L[x - (b - m)]? else L[x]?) :
    L' = L.take a ++ ((L.drop m).take (b - m) ++ ((L.drop a).take (m - a) ++ L.drop b)) := by
  apply List.ext_getElem?
  intro x
  by_cases hx : x < L.length
  · rw [h x hx]
    rw [List.getElem?_append, List.length_take, Nat.min_eq_left (by omega)]
    by_cases c1 : x < a
    · rw [if_pos c1, if_neg (show ¬ (a ≤ x ∧ x < a + (b - m)) by omega), if_neg (show ¬ (a + (b - m) ≤ x ∧ x < b) by omega), List.getElem?_take, if_pos c1]
    · rw [if_neg c1, List.getElem?_append, List.length_take, List.length_drop, Nat.min_eq_left (by omega)]
      by_cases c2 : x < a + (b - m)
      · rw [if_pos (show a ≤ x ∧ x < a + (b - m) by omega), if_pos (show x - a < b - m by omega), List.getElem?_take, if_pos (show x - a < b - m by omega), List.getElem?_drop]
        congr 1; omega
      · rw [if_neg (show ¬ (a ≤ x ∧ x < a + (b - m)) by omega), if_neg (show ¬ (x - a < b - m) by omega), List.getElem?_append, List.length_take, List.length_drop, Nat.min_eq_left (by omega)]
        by_cases c3 : x < b
        · rw [if_pos (show a + (b - m) ≤ x ∧ x < b by omega), if_pos (show x - a - (b - m) < m - a by omega), List.getElem?_take, if_pos (show x - a - (b - m) < m - a by omega), List.getElem?_drop]
          congr 1; omega
        · rw [if_neg (show ¬ (a + (b - m) ≤ x ∧ x < b) by omega), if_neg (show ¬ (x - a - (b - m) < m - a) by omega), List.getElem?_drop]
          congr 1; omega
  · rw [List.getElem?_eq_none (by omega), List.getElem?_eq_none]
    simp only [List.length_append, List.length_take, List.length_drop]
    omega
theorem cut_lists (L : List α) {a m b : Nat} (ham : a ≤ m) (hmb : m ≤ b) : L = L.take a ++ ((L.drop a).take (m - a) ++ ((L.drop m).take (b - m) ++ L.drop b)) := by
  have e3 : (L.drop m).take (b - m) ++ L.drop b = L.drop m := by
    conv => rhs; rw [← List.take_append_drop (b - m) (L.drop m)]
    rw [List.drop_drop]; congr 2; omega
  have e2 : (L.drop a).take (m - a) ++ L.drop m = L.drop a := by
    conv => rhs; rw [← List.take_append_drop (m - a) (L.drop a)]
    rw [List.drop_drop]; congr 2; omega
  rw [e3, e2, List.take_append_drop]
variable {key} in
theorem mem_cut {L : List α} {a m : Nat} {x : α} (h : x ∈ (L.drop a).take (m - a)) : ∃ i, a ≤ i ∧ i < m ∧ L[i]? = some x := by
  obtain ⟨i, hi⟩ := List.mem_iff_getElem?.1 h
  rw [List.getElem?_take] at hi
  by_cases c : i < m - a
  · rw [if_pos c, List.getElem?_drop] at hi
    exact ⟨a + i, by omega, by omega, hi⟩
  · rw [if_neg c] at hi; cases hi
variable {key} in
theorem Rot.mrg {a m b : Nat} {d d' : Array α} (h : Rot a m b d d') (ham : a ≤ m) (hmb : m ≤ b) (hb : b ≤ d.size)
    (hgt : ∀ i j, a ≤ i → i < m → m ≤ j → j < b → key d[j]! < key d[i]!) : Mrg key a b d d' := by
  refine ⟨h.size, fun x hx => by rw [h.at' x, if_neg (by omega), if_neg (by omega)], fun x h1 h2 => ?_, ?_⟩
  · rw [h.at' x]
    by_cases c : x < a + (b - m)
    · rw [if_pos ⟨h1, c⟩]; exact ⟨_, by omega, by omega, rfl⟩
    · rw [if_neg (by omega), if_pos ⟨by omega, h2⟩]; exact ⟨_, by omega, by omega, rfl⟩
  · have hl : d'.toList.length = d.toList.length := by simpa using h.size
    have hL : d.toList.length = d.size := by simp
    have e := rot_lists (L := d.toList) (L' := d'.toList) ham hmb (by omega) hl (fun x hx => by
      rw [bang_get d' x (by have := h.size; omega), h.at' x]
      by_cases c1 : a ≤ x ∧ x < a + (b - m)
      · rw [if_pos c1, if_pos c1, bang_get d _ (by omega)]
      · rw [if_neg c1, if_neg c1]
        by_cases c2 : a + (b - m) ≤ x ∧ x < b
        · rw [if_pos c2, if_pos c2, bang_get d _ (by omega)]
        · rw [if_neg c2, if_neg c2, bang_get d _ (by omega)])
    have e2 := cut_lists d.toList ham hmb
    intro k
    rw [e]
    conv => rhs; rw [e2]
    simp only [List.filter_append]
    congr 1
    rw [← List.append_assoc, ← List.append_assoc]
    congr 1
    have hA : ∀ x ∈ (d.toList.drop a).take (m - a), ∃ i, a ≤ i ∧ i < m ∧ x = d[i]! := fun x hx => by
      obtain ⟨i, h1, h2, h3⟩ := mem_cut hx
      rw [bang_get d i (by omega)] at h3
      exact ⟨i, h1, h2, (Option.some.inj h3).symm⟩
    have hB : ∀ x ∈ (d.toList.drop m).take (b - m), ∃ i, m ≤ i ∧ i < b ∧ x = d[i]! := fun x hx => by
      obtain ⟨i, h1, h2, h3⟩ := mem_cut hx
      rw [bang_get d i (by omega)] at h3
      exact ⟨i, h1, h2, (Option.some.inj h3).symm⟩
    generalize (d.toList.drop a).take (m - a) = A at *
    generalize (d.toList.drop m).take (b - m) = B at *
    by_cases hz : A.filter (fun x => decide (key x = k)) = []
    · rw [hz]; simp
    · have hB0 : B.filter (fun x => decide (key x = k)) = [] := by
        obtain ⟨x, hx⟩ := List.exists_mem_of_ne_nil _ hz
        obtain ⟨hx1, hx2⟩ := List.mem_filter.1 hx
        obtain ⟨i, i1, i2, rfl⟩ := hA x hx1
        rw [List.filter_eq_nil_iff]
        intro y hy hk
        obtain ⟨j, j1, j2, rfl⟩ := hB y hy
        have := hgt i j i1 i2 j1 j2
        have k1 := of_decide_eq_true hx2
        have k2 := of_decide_eq_true hk
        omega
      rw [hB0]; simp
/-- A list that is sorted is known by what has each key. -/
def SortL (l : List α) : Prop := l.Pairwise fun x y => key x ≤ key y
theorem sorted_same : ∀ (l l' : List α), SortL key l → SortL key l' → SameL key l l' → l' = l
  | [], [], _, _, _ => rfl
  | [], y :: l', _, _, h => by
    have := h (key y)
    simp at this
  | x :: l, [], _, _, h => by
    have := h (key x)
    simp at this
  | x :: l, y :: l', hs, hs', h => by
    have hx : ∀ z ∈ l, key x ≤ key z := (List.pairwise_cons.1 hs).1
    have hy : ∀ z ∈ l', key y ≤ key z := (List.pairwise_cons.1 hs').1
    have m1 : ∃ z ∈ y :: l', key z = key x := by
      have hm : x ∈ (y :: l').filter (fun z => decide (key z = key x)) := by rw [h (key x)]; exact List.mem_filter.2 ⟨List.mem_cons_self, by simp⟩
      exact ⟨x, (List.mem_filter.1 hm).1, rfl⟩
    have m2 : ∃ z ∈ x :: l, key z = key y := by
      have hm : y ∈ (x :: l).filter (fun z => decide (key z = key y)) := by rw [← h (key y)]; exact List.mem_filter.2 ⟨List.mem_cons_self, by simp⟩
      exact ⟨y, (List.mem_filter.1 hm).1, rfl⟩
    have e : key x = key y := by
      obtain ⟨z, z1, z2⟩ := m1
      obtain ⟨t, t1, t2⟩ := m2
      have a1 : key y ≤ key z := by
        rcases List.mem_cons.1 z1 with rfl | h
        · exact Int.le_refl _
        · exact hy z h
      have a2 : key x ≤ key t := by
        rcases List.mem_cons.1 t1 with rfl | h
        · exact Int.le_refl _
        · exact hx t h
      omega
    have hk := h (key x)
    rw [List.filter_cons_of_pos (by simp [e]), List.filter_cons_of_pos (by simp)] at hk
    obtain ⟨e1, e2⟩ := List.cons.inj hk
    subst e1
    rw [sorted_same l l' (List.pairwise_cons.1 hs).2 (List.pairwise_cons.1 hs').2 (fun k => by
      by_cases c : key y = k
      · subst c; exact e2
      · have := h k
        rw [List.filter_cons_of_neg (by simp [c]), List.filter_cons_of_neg (by simp [c])] at this
        exact this)]
variable {key} in
theorem sortL_of {d : Array α} (h : SortK key d 0 d.size) : SortL key d.toList := by
  unfold SortL
  rw [List.pairwise_iff_getElem]
  intro i j hi hj hij
  have hL : d.toList.length = d.size := by simp
  have := h i j (by omega) (by omega) (by omega)
  rw [getElem!_pos d i (by omega), getElem!_pos d j (by omega)] at this
  simpa using this
end
end Go.Proofs.YtcilnbkmaoneaaaDoor
set_option linter.unusedSimpArgs false
set_option linter.unusedVariables false
set_option linter.unusedSectionVars false
namespace Go.Proofs.YtcilnbkmaoneaaaDoor
open Go.Sort

section
variable {α : Type} [Inhabited α] {key : α → Int}
theorem sym_mid {a m b mid start en : Nat} {d d1 : Array α} (h1 : SortK key d a m) (h2 : SortK key d m b) (ham : a < m) (hmb : m < b) (hb : b ≤ d.size)
    (hs1 : a ≤ start) (hs2 : start ≤ m) (hs3 : start ≤ mid) (hen : en = mid + m - start) (henb : en ≤ b)
    (q1 : start = a ∨ en = b ∨ key d[start - 1]! ≤ key d[en]!) (q2 : start = m ∨ en = m ∨ key d[en - 1]! < key d[start]!) (R : Rot start m en d d1) :
    Mrg key a b d d1 ∧ SortK key d1 a start ∧ SortK key d1 start mid ∧ SortK key d1 mid en ∧ SortK key d1 en b ∧ (∀ i j, a ≤ i → i < mid → mid ≤ j → j < b → key d1[i]! ≤ key d1[j]!) := by
  have hme : m ≤ en := by omega
  have hgt : ∀ i j, start ≤ i → i < m → m ≤ j → j < en → key d[j]! < key d[i]! := fun i j i1 i2 j1 j2 => by
    rcases q2 with q | q | q
    · omega
    · omega
    · have e1 := h1 start i hs1 i1 i2
      have e2 := h2 j (en - 1) j1 (by omega) (by omega)
      omega
  have hle : ∀ i j, a ≤ i → i < start → en ≤ j → j < b → key d[i]! ≤ key d[j]! := fun i j i1 i2 j1 j2 => by
    rcases q1 with q | q | q
    · omega
    · omega
    · have e1 := h1 i (start - 1) i1 (by omega) (by omega)
      have e2 := h2 en j (by omega) j1 j2
      omega
  have v1 : ∀ x, a ≤ x → x < start → d1[x]! = d[x]! := fun x _ hx => by rw [R.at' x, if_neg (by omega), if_neg (by omega)]
  have v2 : ∀ x, start ≤ x → x < mid → d1[x]! = d[x + (m - start)]! := fun x hx hx2 => by rw [R.at' x, if_pos (by omega)]
  have v3 : ∀ x, mid ≤ x → x < en → d1[x]! = d[x - (en - m)]! := fun x hx hx2 => by rw [R.at' x, if_neg (by omega), if_pos (by omega)]
  have v4 : ∀ x, en ≤ x → d1[x]! = d[x]! := fun x hx => by rw [R.at' x, if_neg (by omega), if_neg (by omega)]
  refine ⟨(R.mrg hs2 hme (by omega) hgt).wide hs1 henb, ?_, ?_, ?_, ?_, ?_⟩
  · intro i j i1 i2 i3
    rw [v1 i i1 (by omega), v1 j (by omega) i3]
    exact h1 i j i1 i2 (by omega)
  · intro i j i1 i2 i3
    rw [v2 i i1 (by omega), v2 j (by omega) i3]
    exact h2 _ _ (by omega) (by omega) (by omega)
  · intro i j i1 i2 i3
    rw [v3 i i1 (by omega), v3 j (by omega) i3]
    exact h1 _ _ (by omega) (by omega) (by omega)
  · intro i j i1 i2 i3
    rw [v4 i i1, v4 j (by omega)]
    exact h2 _ _ (by omega) (by omega) (by omega)
  · intro i j i1 i2 j1 j2
    by_cases c1 : i < start
    · rw [v1 i i1 c1]
      by_cases c2 : j < en
      · rw [v3 j j1 c2]
        exact h1 _ _ i1 (by omega) (by omega)
      · rw [v4 j (by omega)]
        exact hle i j i1 c1 (by omega) j2
    · rw [v2 i (by omega) i2]
      by_cases c2 : j < en
      · rw [v3 j j1 c2]
        have := hgt (j - (en - m)) (i + (m - start)) (by omega) (by omega) (by omega) (by omega)
        omega
      · rw [v4 j (by omega)]
        exact h2 _ _ (by omega) (by omega) j2
theorem sym_end {a mid b : Nat} {d1 d2 d3 : Array α} (ham : a ≤ mid) (hmb : mid ≤ b) (g1 : Mrg key a mid d1 d2) (g2 : Mrg key mid b d2 d3) (s1 : SortK key d2 a mid) (s2 : SortK key d3 mid b)
    (hc : ∀ i j, a ≤ i → i < mid → mid ≤ j → j < b → key d1[i]! ≤ key d1[j]!) : Mrg key a b d1 d3 ∧ SortK key d3 a b := by
  refine ⟨(g1.wide (Nat.le_refl _) hmb).trans (g2.wide ham (Nat.le_refl _)), ?_⟩
  intro i j i1 i2 i3
  by_cases c1 : j < mid
  · rw [g2.out i (by omega), g2.out j (by omega)]
    exact s1 i j i1 i2 c1
  · by_cases c2 : mid ≤ i
    · exact s2 i j c2 i2 i3
    · rw [g2.out i (by omega)]
      obtain ⟨y, y1, y2, e1⟩ := g1.inn i i1 (by omega)
      obtain ⟨z, z1, z2, e2⟩ := g2.inn j (by omega) i3
      rw [e1, e2, g1.out z (by omega)]
      exact hc y z y1 y2 z1 z2
theorem swp_at (d : Array α) (i j : Nat) (hi : i < d.size) (hj : j < d.size) (x : Nat) : (swp d i j)[x]! = if x = j then d[i]! else if x = i then d[j]! else d[x]! := by
  unfold swp
  by_cases c : x = j
  · rw [if_pos c, c, getElem!_set_same _ _ _ (by simpa using hj)]
  · rw [if_neg c, getElem!_set_other _ _ _ _ c]
    by_cases c2 : x = i
    · rw [if_pos c2, c2, getElem!_set_same _ _ _ hi]
    · rw [if_neg c2, getElem!_set_other _ _ _ _ c2]
theorem size_swp' (d : Array α) (i j : Nat) : (swp d i j).size = d.size := by unfold swp; simp
theorem rot_swp (d : Array α) (j : Nat) (hj : j + 1 < d.size) : Rot j (j + 1) (j + 2) d (swp d (j + 1) j) := by
  refine ⟨size_swp' _ _ _, fun x => ?_⟩
  rw [swp_at d (j + 1) j hj (by omega)]
  by_cases c1 : x = j
  · rw [if_pos c1, if_pos (by omega), c1]; congr 1; omega
  · by_cases c2 : x = j + 1
    · rw [if_neg c1, if_pos c2, if_neg (by omega), if_pos (by omega), c2]; congr 1; omega
    · rw [if_neg c1, if_neg c2, if_neg (by omega), if_neg (by omega)]
def ltK (key : α → Int) (x y : α) : Bool := decide (key x < key y)
theorem swo_ltK : SWO (ltK key) := ⟨fun x => by simp [ltK], fun x y z h1 h2 => by simp [ltK] at *; omega, fun x y z h1 h2 => by simp [ltK] at *; omega⟩
theorem mrg_inner (a b : Nat) : ∀ (i : Nat) (d : Array α), i < b → b ≤ d.size → Mrg key a b d (insInner (ltK key) a i d)
  | 0, d, _, _ => Mrg.refl key a b d
  | j + 1, d, h, hb => by
    unfold insInner
    by_cases c : (decide (j + 1 > a) && ltK key d[j + 1]! d[j]!) = true
    · rw [if_pos c]
      have c1 : j + 1 > a := by simp at c; exact c.1
      have c2 : key d[j + 1]! < key d[j]! := by simp [ltK] at c; exact c.2
      have g := (rot_swp d j (by omega)).mrg (key := key) (by omega) (by omega) (by omega) (fun i k i1 i2 k1 k2 => by
        obtain rfl : i = j := by omega
        obtain rfl : k = i + 1 := by omega
        exact c2)
      exact (g.wide (by omega) (by omega)).trans (mrg_inner a b j _ (by omega) (by rw [size_swp']; exact hb))
    · rw [if_neg c]; exact Mrg.refl key a b d
theorem mrg_outer (a b : Nat) : ∀ (f i : Nat) (d : Array α), b - i ≤ f → b ≤ d.size → Mrg key a b d (insOuter (ltK key) a b i d)
  | f, i, d, hf, hb => by
    unfold insOuter
    by_cases c : i < b
    · rw [if_pos c]
      have g := mrg_inner (key := key) a b i d c hb
      cases f with
      | zero => omega
      | succ f => exact g.trans (mrg_outer a b f (i + 1) _ (by omega) (by rw [g.size]; exact hb))
    · rw [if_neg c]; exact Mrg.refl key a b d
theorem mrg_insertion (a b : Nat) (d : Array α) (hab : a ≤ b) (hb : b ≤ d.size) : Mrg key a b d (insertionSort (ltK key) d a b) ∧ SortK key (insertionSort (ltK key) d a b) a b := by
  refine ⟨mrg_outer a b _ _ d (Nat.le_refl _) hb, ?_⟩
  have h := (insertionSort_holds (lt := ltK key) swo_ltK d a b hab hb).2
  intro i j i1 i2 i3
  by_cases c : i = j
  · rw [c]; exact Int.le_refl _
  · have := h i j i1 (by omega) i3
    simp [ltK] at this
    exact this
/-- Blocks of s each are sorted. -/
def Blk (key : α → Int) (d : Array α) (s n : Nat) : Prop := ∀ t, SortK key d (t * s) (min ((t + 1) * s) n)
/-- Up to the block t0 of 2 s they are merged, behind it they are of s. -/
def Blk2 (key : α → Int) (d : Array α) (s n t0 : Nat) : Prop := (∀ t, t < t0 → SortK key d (t * (2 * s)) (min ((t + 1) * (2 * s)) n)) ∧ ∀ t, 2 * t0 ≤ t → SortK key d (t * s) (min ((t + 1) * s) n)
theorem blk_start {d : Array α} {s n : Nat} (h : Blk key d s n) : Blk2 key d s n 0 := ⟨fun t h => by omega, fun t _ => h t⟩
theorem SortK.part {d : Array α} {a b a' b' : Nat} (h : SortK key d a b) (ha : a ≤ a') (hb : b' ≤ b) : SortK key d a' b' := fun i j i1 i2 i3 => h i j (by omega) i2 (by omega)
theorem SortK.empty {d : Array α} {a b : Nat} (h : b ≤ a) : SortK key d a b := fun i j i1 i2 i3 => by omega
theorem blk2_low {d : Array α} {s n t0 : Nat} (h : Blk2 key d s n t0) (hb : t0 * (2 * s) + s ≤ n) : SortK key d (t0 * (2 * s)) (t0 * (2 * s) + s) := by
  have := h.2 (2 * t0) (Nat.le_refl _)
  have e1 : 2 * t0 * s = t0 * (2 * s) := by rw [Nat.mul_comm 2 t0, Nat.mul_assoc]
  have e2 : (2 * t0 + 1) * s = t0 * (2 * s) + s := by rw [Nat.add_mul, Nat.one_mul, e1]
  rw [e1, e2] at this
  exact this.part (Nat.le_refl _) (by omega)
theorem blk2_high {d : Array α} {s n t0 b : Nat} (h : Blk2 key d s n t0) (hb : b ≤ n) (hb2 : b ≤ t0 * (2 * s) + 2 * s) : SortK key d (t0 * (2 * s) + s) b := by
  have := h.2 (2 * t0 + 1) (by omega)
  have e1 : 2 * t0 * s = t0 * (2 * s) := by rw [Nat.mul_comm 2 t0, Nat.mul_assoc]
  have e2 : (2 * t0 + 1) * s = t0 * (2 * s) + s := by rw [Nat.add_mul, Nat.one_mul, e1]
  have e3 : (2 * t0 + 1 + 1) * s = t0 * (2 * s) + 2 * s := by rw [Nat.add_mul, Nat.one_mul, e2]; omega
  rw [e2, e3] at this
  exact this.part (Nat.le_refl _) (by omega)
theorem blk2_step {d e : Array α} {s n t0 : Nat} (h : Blk2 key d s n t0) (g : Mrg key (t0 * (2 * s)) (t0 * (2 * s) + 2 * s) d e) (hs : SortK key e (t0 * (2 * s)) (t0 * (2 * s) + 2 * s)) : Blk2 key e s n (t0 + 1) := by
  refine ⟨fun t ht => ?_, fun t ht => ?_⟩
  · by_cases c : t = t0
    · subst c
      exact hs.part (Nat.le_refl _) (by rw [Nat.add_mul, Nat.one_mul]; omega)
    · have hm : (t + 1) * (2 * s) ≤ t0 * (2 * s) := Nat.mul_le_mul_right _ (by omega)
      exact (h.1 t (by omega)).same fun x h1 h2 => g.out x (by omega)
  · have hm : 2 * (t0 + 1) * s ≤ t * s := Nat.mul_le_mul_right _ ht
    have e1 : 2 * (t0 + 1) * s = t0 * (2 * s) + 2 * s := by rw [Nat.mul_comm 2 (t0 + 1), Nat.mul_assoc, Nat.add_mul, Nat.one_mul]
    exact (h.2 t (by omega)).same fun x h1 h2 => g.out x (by omega)
/-- All of the blocks of 2 s, where less than two blocks are left behind the last one: these merged, or one block, or none. -/
theorem blk2_end {d : Array α} {s n t0 : Nat} (h : Blk2 key d s n t0) (hn : n < t0 * (2 * s) + 2 * s) (hs : SortK key d (t0 * (2 * s)) n) : Blk key d (2 * s) n := fun t => by
  by_cases c : t < t0
  · exact h.1 t c
  · by_cases c2 : t = t0
    · subst c2; exact hs.part (Nat.le_refl _) (by omega)
    · have hm : (t0 + 1) * (2 * s) ≤ t * (2 * s) := Nat.mul_le_mul_right _ (by omega)
      rw [Nat.add_mul, Nat.one_mul] at hm
      exact SortK.empty (by omega)
theorem blk2_rest {d e : Array α} {s n t0 : Nat} (h : Blk2 key d s n t0) (g : Mrg key (t0 * (2 * s)) n d e) (hn : n < t0 * (2 * s) + 2 * s) (hs : SortK key e (t0 * (2 * s)) n) : Blk key e (2 * s) n := fun t => by
  by_cases c : t < t0
  · have hm : (t + 1) * (2 * s) ≤ t0 * (2 * s) := Nat.mul_le_mul_right _ (by omega)
    exact (h.1 t c).same fun x h1 h2 => g.out x (by omega)
  · by_cases c2 : t = t0
    · subst c2; exact hs.part (Nat.le_refl _) (by omega)
    · have hm : (t0 + 1) * (2 * s) ≤ t * (2 * s) := Nat.mul_le_mul_right _ (by omega)
      rw [Nat.add_mul, Nat.one_mul] at hm
      exact SortK.empty (by omega)
theorem blk_all {d : Array α} {s n : Nat} (h : Blk key d s n) (hn : n ≤ s) : SortK key d 0 n := by
  have := h 0
  rw [Nat.zero_mul, Nat.zero_add, Nat.one_mul] at this
  exact this.part (Nat.le_refl _) (by omega)
/-- Blocks of 20, one behind the other: those up to t0 are sorted. -/
def Ins (key : α → Int) (d : Array α) (s t0 : Nat) : Prop := ∀ t, t < t0 → SortK key d (t * s) ((t + 1) * s)
theorem ins_step {d e : Array α} {s t0 : Nat} (h : Ins key d s t0) (g : Mrg key (t0 * s) (t0 * s + s) d e) (hs : SortK key e (t0 * s) (t0 * s + s)) : Ins key e s (t0 + 1) := fun t ht => by
  by_cases c : t = t0
  · subst c; rw [Nat.add_mul, Nat.one_mul]; exact hs
  · have hm : (t + 1) * s ≤ t0 * s := Nat.mul_le_mul_right _ (by omega)
    exact (h t (by omega)).same fun x h1 h2 => g.out x (by omega)
theorem ins_end {d e : Array α} {s n t0 : Nat} (h : Ins key d s t0) (g : Mrg key (t0 * s) n d e) (hs : SortK key e (t0 * s) n) (hn : n < t0 * s + s) : Blk key e s n := fun t => by
  by_cases c : t < t0
  · have hm : (t + 1) * s ≤ t0 * s := Nat.mul_le_mul_right _ (by omega)
    exact ((h t c).part (Nat.le_refl _) (Nat.min_le_left _ _)).same fun x h1 h2 => g.out x (by omega)
  · by_cases c2 : t = t0
    · subst c2; exact hs.part (Nat.le_refl _) (Nat.min_le_right _ _)
    · have hm : (t0 + 1) * s ≤ t * s := Nat.mul_le_mul_right _ (by omega)
      rw [Nat.add_mul, Nat.one_mul] at hm
      exact SortK.empty (by omega)
end
end Go.Proofs.YtcilnbkmaoneaaaDoor
set_option linter.unusedSimpArgs false
set_option linter.unusedVariables false
namespace Go.Proofs.YtcilnbkmaoneaaaDoor
open Go.Shelf Go.RowKit Go.Lib Go.Sort Go.PlainAid

/-- What stands where, when n places from a on and n from b on have changed. -/
def Swd {α : Type} [Inhabited α] (a b n : Nat) (d d' : Array α) : Prop := d'.size = d.size ∧ ∀ x, d'[x]! = if a ≤ x ∧ x < a + n then d[x - a + b]! else if b ≤ x ∧ x < b + n then d[x - b + a]! else d[x]!
theorem swd_start {α : Type} [Inhabited α] (a b : Nat) (d : Array α) : Swd a b 0 d d := ⟨rfl, fun x => by rw [if_neg (by omega), if_neg (by omega)]⟩
theorem swd_step {α : Type} [Inhabited α] {a b i : Nat} {d e : Array α} (h : Swd a b i d e) (hab : a + i < b) (hb : b + i < d.size) : Swd a b (i + 1) d (swp e (a + i) (b + i)) := by
  obtain ⟨hs, h⟩ := h
  refine ⟨by rw [size_swp', hs], fun x => ?_⟩
  rw [swp_at e (a + i) (b + i) (by omega) (by omega)]
  by_cases c1 : x = b + i
  · rw [if_pos c1, if_neg (by omega), if_pos (by omega), h (a + i), if_neg (by omega), if_neg (by omega), c1]
    congr 1; omega
  · rw [if_neg c1]
    by_cases c2 : x = a + i
    · rw [if_pos c2, if_pos (by omega), h (b + i), if_neg (by omega), if_neg (by omega), c2]
      congr 1; omega
    · rw [if_neg c2, h x]
      by_cases c3 : a ≤ x ∧ x < a + i
      · rw [if_pos c3, if_pos (by omega)]
      · rw [if_neg c3, if_neg (show ¬ (a ≤ x ∧ x < a + (i + 1)) by omega)]
        by_cases c4 : b ≤ x ∧ x < b + i
        · rw [if_pos c4, if_pos (by omega)]
        · rw [if_neg c4, if_neg (by omega)]
theorem span_mixed : Tryd.prog.follows .mixedOrders = true := by kernel_rfl
theorem span_agg (w : World) : (isAgg 64).run Tryd.prog w = .ok true w := by kernel_rfl
theorem span_size (w : World) : (Go.sizeOf 64).run Tryd.prog w = .ok 3 w := by kernel_rfl

set_option maxHeartbeats 4000000 in
set_option maxRecDepth 1000000 in
theorem swapRange_k (k : Nat) (aE : ∀ w, (isAgg 64).run Tryd.prog w = .ok true w) (zE : ∀ w, (Go.sizeOf 64).run Tryd.prog w = .ok k w) (enc : Sp → List Value) (g : Nat) (cb : Array Value) (blk off cap a b n : Nat) (d0 d : Array Sp) (w0 w : World)
    (R : RowK enc k w0 blk off d0) (hs : d0.size = d.size) (S : SWK enc k w0 blk off d w) (hab : a + n ≤ b) (hb : b + n ≤ d.size) (hsz : d.size < 4611686018427387904) :
    Calls Tryd.prog 51 #[.slice (some ⟨blk, off, none⟩) d.size cap, .int .i64 a, .int .i64 b, .int .i64 n, .func (.func g) #[] cb] w fun e w' => e = .returned (.tuple #[]) ∧ ∃ d', Swd a b n d d' ∧ SWK enc k w0 blk off d' w' := by
  have mixed := span_mixed
  have S0 : Aside (SWK enc k w0 blk off d w) := S
  clear S
  go_enter Tryd.func51, Tryd.ntmps51
  go_wp2
  go_loopg [10] n (fun kx s10 wr => ∃ (i : Nat) (dk : Array Sp), s10 = .int .i64 i ∧ i ≤ n ∧ n - i ≤ kx ∧ Aside (SWK enc k w0 blk off dk wr) ∧ Hid (Swd a b i d dk))
  case atStart => exact ⟨0, d, rfl, by omega, by omega, S0, Lib.hid (swd_start a b d)⟩
  case round =>
    clear S0
    obtain ⟨i, dk, rfl, hin, hkx, S1, HS⟩ := hrel
    have hds : dk.size = d.size := HS.out.1
    by_cases hlt : i < n
    · have hltz : (i : Int) < (n : Int) := by omega
      go_wp2_with fail
      have ea44 : ((a : Int) + (i : Int)).toNat = a + i := by omega
      have pa44 : (0 : Int) ≤ (a : Int) + (i : Int) := by omega
      have ba44 : (a : Int) + (i : Int) < (d.size : Int) := by omega
      have ra44 : IntKind.i64.wrap ((a : Int) + (i : Int)) = (a : Int) + (i : Int) := by rw [IntKind.wrap_i64]; omega
      have ec44 : ((b : Int) + (i : Int)).toNat = b + i := by omega
      have pc44 : (0 : Int) ≤ (b : Int) + (i : Int) := by omega
      have bc44 : (b : Int) + (i : Int) < (d.size : Int) := by omega
      have rc44 : IntKind.i64.wrap ((b : Int) + (i : Int)) = (b : Int) + (i : Int) := by rw [IntKind.wrap_i64]; omega
      have S2 : Aside (SWK enc k w0 blk off (swp dk (a + i) (b + i)) ((wr.drew.setCells blk (off + (a + i) * k) (enc dk[b + i]!)).setCells blk (off + (b + i) * k) (enc dk[a + i]!))) := S1.out.swapped R (a + i) (b + i) (by omega) (by omega)
      have l44a := S1.out.ld1 R (by omega) Tryd.prog (a + i) (by omega)
      have l44b := S1.out.ld1 R (by omega) Tryd.prog (b + i) (by omega)
      have s44a := S1.out.st1 R (by omega) Tryd.prog (a + i) (by omega) dk[b + i]!
      have s44b := S1.out.st2 R (by omega) Tryd.prog (a + i) (b + i) (by omega) (by omega) dk[b + i]! dk[a + i]!
      have n44a : (enc dk[a + i]!).length = k := R.hk _
      have n44b : (enc dk[b + i]!).length = k := R.hk _
      generalize enc dk[a + i]! = cI44 at S2 l44a s44b n44a
      generalize enc dk[b + i]! = cJ44 at S2 l44b s44a s44b n44b
      clear S1
      go_wp2_with fail
      go_big_region_o
      clear l44a l44b s44a s44b
      generalize (wr.drew.setCells blk (off + (a + i) * k) cJ44).setCells blk (off + (b + i) * k) cI44 = w2 at S2 ⊢
      go_wp2
      go_roundg (n - (i + 1))
      case measure => omega
      case rel => exact ⟨i + 1, swp dk (a + i) (b + i), by go_num, by omega, by omega, S2, Lib.hid (swd_step HS.out (by omega) (by omega))⟩
    · have hltz : ¬ (i : Int) < (n : Int) := by omega
      obtain rfl : i = n := by omega
      go_wp2
      go_end0
      exact ⟨rfl, dk, HS.out, S1.out⟩
end Go.Proofs.YtcilnbkmaoneaaaDoor
set_option linter.unusedSimpArgs false
set_option linter.unusedVariables false
namespace Go.Proofs.YtcilnbkmaoneaaaDoor
open Go.Shelf Go.RowKit Go.Lib Go.Sort Go.PlainAid

theorem rot_eq {α : Type} [Inhabited α] {i : Nat} {m : Nat} {d e : Array α} (hi : i ≤ m) (h : Swd (m - i) m i d e) : Rot (m - i) m (m + i) d e := by
  refine ⟨h.1, fun x => ?_⟩
  rw [h.2 x]
  (repeat' split) <;> first | (exfalso; omega) | rfl | (congr 1; omega)
theorem rot_left {α : Type} [Inhabited α] {i j m : Nat} {d e f : Array α} (hj : 0 < j) (hji : j < i) (hi : i ≤ m) (h : Swd (m - i) m j d e) (g : Rot (m - (i - j)) m (m + j) e f) : Rot (m - i) m (m + j) d f := by
  refine ⟨g.size.trans h.1, fun x => ?_⟩
  rw [g.at' x, h.2 (x + (m - (m - (i - j)))), h.2 (x - (m + j - m)), h.2 x]
  (repeat' split) <;> first | (exfalso; omega) | rfl | (congr 1; omega)
theorem rot_right {α : Type} [Inhabited α] {i j m : Nat} {d e f : Array α} (hi0 : 0 < i) (hij : i < j) (hi : i ≤ m) (h : Swd (m - i) (m + j - i) i d e) (g : Rot (m - i) m (m + (j - i)) e f) : Rot (m - i) m (m + j) d f := by
  refine ⟨g.size.trans h.1, fun x => ?_⟩
  rw [g.at' x, h.2 (x + (m - (m - i))), h.2 (x - (m + (j - i) - m)), h.2 x]
  (repeat' split) <;> first | (exfalso; omega) | rfl | (congr 1; omega)

set_option maxHeartbeats 4000000 in
set_option maxRecDepth 1000000 in
theorem rotate_k (k : Nat) (aE : ∀ w, (isAgg 64).run Tryd.prog w = .ok true w) (zE : ∀ w, (Go.sizeOf 64).run Tryd.prog w = .ok k w) (enc : Sp → List Value) (g : Nat) (cb : Array Value) (blk off cap a m b : Nat) (d0 d : Array Sp) (w0 w : World)
    (R : RowK enc k w0 blk off d0) (hs : d0.size = d.size) (S : SWK enc k w0 blk off d w) (ham : a < m) (hmb : m < b) (hb : b ≤ d.size) (hsz : d.size < 4611686018427387904) :
    Calls Tryd.prog 50 #[.slice (some ⟨blk, off, none⟩) d.size cap, .int .i64 a, .int .i64 m, .int .i64 b, .func (.func g) #[] cb] w fun e w' => e = .returned (.tuple #[]) ∧ ∃ d', Rot a m b d d' ∧ SWK enc k w0 blk off d' w' := by
  have mixed := span_mixed
  have S0 : Aside (SWK enc k w0 blk off d w) := S
  have HSW := Lib.hid (fun (p q n : Nat) (D : Array Sp) (W : World) (h1 : D.size = d.size) (h2 : SWK enc k w0 blk off D W) (h3 : p + n ≤ q) (h4 : q + n ≤ d.size) => by
    have := swapRange_k k aE zE enc g cb blk off cap p q n d0 D w0 W R (by omega) h2 h3 (by omega) (by omega)
    rw [h1] at this
    exact this)
  clear S
  go_enter Tryd.func50, Tryd.ntmps50
  go_wp2
  go_loopg [10, 11] (b - a) (fun kx s10 s11 wr => ∃ (i j : Nat) (dk : Array Sp), s10 = .int .i64 i ∧ s11 = .int .i64 j ∧ 0 < i ∧ 0 < j ∧ i ≤ m - a ∧ j ≤ b - m ∧ i + j ≤ kx ∧ dk.size = d.size ∧ Aside (SWK enc k w0 blk off dk wr) ∧ Hid (∀ e, Rot (m - i) m (m + j) dk e → Rot a m b d e))
  case atStart =>
    exact ⟨m - a, b - m, d, by go_num, by go_num, by omega, by omega, Nat.le_refl _, Nat.le_refl _, by omega, rfl, S0, Lib.hid (fun e h => by rw [show m - (m - a) = a from by omega, show m + (b - m) = b from by omega] at h; exact h)⟩
  case round =>
    clear S0
    obtain ⟨i, j, dk, rfl, rfl, hi0, hj0, hia, hjb, hkx, hds, S1, HS⟩ := hrel
    have hw1 : IntKind.i64.wrap ((m : Int) - (i : Int)) = ((m - i : Nat) : Int) := by rw [IntKind.wrap_i64]; omega
    by_cases hne : i = j
    · subst hne
      have e1 : ((i : Int) != (i : Int)) = false := by simp
      have e2 : (m : Int) - (i : Int) = ((m - i : Nat) : Int) := by omega
      have HC := Lib.hid (HSW.out (m - i) m i dk)
      go_wp2_with fail
      (with_reducible refine (HC.out _ hds S1.out (by omega) (by omega)).mono ?_)
      rintro _ w2 ⟨rfl, d', hd', S2⟩
      go_wp2
      go_end0
      exact ⟨rfl, d', HS.out _ (rot_eq (by omega) hd'), S2⟩
    · have e1 : ((i : Int) != (j : Int)) = true := by simp; omega
      by_cases hlt : j < i
      · have e2 : (j : Int) < (i : Int) := by omega
        have e3 : (m : Int) - (i : Int) = ((m - i : Nat) : Int) := by omega
        have e4 : (i : Int) - (j : Int) = ((i - j : Nat) : Int) := by omega
        have HC := Lib.hid (HSW.out (m - i) m j dk)
        go_wp2_with fail
        (with_reducible refine (HC.out _ hds S1.out (by omega) (by omega)).mono ?_)
        rintro _ w2 ⟨rfl, d', hd', S2⟩
        have S3 : Aside (SWK enc k w0 blk off d' w2) := S2
        clear S2
        go_wp2
        go_roundg (i - j + j)
        case measure => omega
        case rel => exact ⟨i - j, j, d', by go_num, rfl, by omega, hj0, by omega, hjb, Nat.le_refl _, by rw [hd'.1]; exact hds, S3, Lib.hid (fun e h => HS.out e (rot_left hj0 hlt (by omega) hd' h))⟩
      · have e2 : ¬ (j : Int) < (i : Int) := by omega
        have e3 : (m : Int) - (i : Int) = ((m - i : Nat) : Int) := by omega
        have e4 : (j : Int) - (i : Int) = ((j - i : Nat) : Int) := by omega
        have e5 : (m : Int) + (j : Int) - (i : Int) = ((m + j - i : Nat) : Int) := by omega
        have HC := Lib.hid (HSW.out (m - i) (m + j - i) i dk)
        go_wp2_with fail
        (with_reducible refine (HC.out _ hds S1.out (by omega) (by omega)).mono ?_)
        rintro _ w2 ⟨rfl, d', hd', S2⟩
        have S3 : Aside (SWK enc k w0 blk off d' w2) := S2
        clear S2
        go_wp2
        go_roundg (i + (j - i))
        case measure => omega
        case rel => exact ⟨i, j - i, d', rfl, by go_num, hi0, by omega, hia, by omega, Nat.le_refl _, by rw [hd'.1]; exact hds, S3, Lib.hid (fun e h => HS.out e (rot_right hi0 (by omega) (by omega) hd' h))⟩
end Go.Proofs.YtcilnbkmaoneaaaDoor
set_option linter.unusedSimpArgs false
set_option linter.unusedVariables false
namespace Go.Proofs.YtcilnbkmaoneaaaDoor
open Go.Shelf Go.RowKit Go.Lib Go.Sort Go.PlainAid

theorem one_left {α : Type} [Inhabited α] {key : α → Int} {a p b : Nat} {d e : Array α} (h2 : SortK key d (a + 1) b) (hp : a + 1 ≤ p) (hpb : p ≤ b) (hb : b ≤ d.size)
    (q1 : p = a + 1 ∨ key d[p - 1]! < key d[a]!) (q2 : p = b ∨ key d[a]! ≤ key d[p]!) (R : Rot a (a + 1) p d e) : Mrg key a b d e ∧ SortK key e a b := by
  have hlt : ∀ j, a + 1 ≤ j → j < p → key d[j]! < key d[a]! := fun j j1 j2 => by
    rcases q1 with q | q
    · omega
    · have := h2 j (p - 1) j1 (by omega) (by omega); omega
  have hge : ∀ j, p ≤ j → j < b → key d[a]! ≤ key d[j]! := fun j j1 j2 => by
    rcases q2 with q | q
    · omega
    · have := h2 p j hp j1 j2; omega
  refine ⟨(R.mrg (key := key) (by omega) hp (by omega) (fun i j i1 i2 j1 j2 => by have e : i = a := (by omega); subst e; exact hlt j j1 j2)).wide (Nat.le_refl _) hpb, ?_⟩
  have v1 : ∀ x, a ≤ x → x + 1 < p → e[x]! = d[x + 1]! := fun x h1 h3 => by rw [R.at' x, if_pos (by omega)]; congr 1; omega
  have v2 : e[p - 1]! = d[a]! := by rw [R.at' (p - 1), if_neg (by omega), if_pos (by omega)]; congr 1; omega
  have v3 : ∀ x, p ≤ x → e[x]! = d[x]! := fun x h1 => by rw [R.at' x, if_neg (by omega), if_neg (by omega)]
  intro i j i1 i2 i3
  by_cases c1 : i + 1 < p
  · rw [v1 i i1 c1]
    by_cases c2 : j + 1 < p
    · rw [v1 j (by omega) c2]; exact h2 _ _ (by omega) (by omega) (by omega)
    · by_cases c3 : j = p - 1
      · rw [c3, v2]; exact Int.le_of_lt (hlt _ (by omega) (by omega))
      · rw [v3 j (by omega)]; exact h2 _ _ (by omega) (by omega) i3
  · by_cases c4 : i = p - 1
    · rw [c4, v2]
      by_cases c3 : j = p - 1
      · rw [c3, v2]; exact Int.le_refl _
      · rw [v3 j (by omega)]; exact hge j (by omega) i3
    · rw [v3 i (by omega), v3 j (by omega)]; exact h2 _ _ (by omega) i2 i3
theorem one_right {α : Type} [Inhabited α] {key : α → Int} {a p m : Nat} {d e : Array α} (h1 : SortK key d a m) (hp : a ≤ p) (hpm : p ≤ m) (hm : m < d.size)
    (q1 : p = a ∨ key d[p - 1]! ≤ key d[m]!) (q2 : p = m ∨ key d[m]! < key d[p]!) (R : Rot p m (m + 1) d e) : Mrg key a (m + 1) d e ∧ SortK key e a (m + 1) := by
  have hle : ∀ j, a ≤ j → j < p → key d[j]! ≤ key d[m]! := fun j j1 j2 => by
    rcases q1 with q | q
    · omega
    · have := h1 j (p - 1) j1 (by omega) (by omega); omega
  have hgt : ∀ j, p ≤ j → j < m → key d[m]! < key d[j]! := fun j j1 j2 => by
    rcases q2 with q | q
    · omega
    · have := h1 p j hp j1 j2; omega
  refine ⟨(R.mrg (key := key) hpm (by omega) (by omega) (fun i j i1 i2 j1 j2 => by have e : j = m := (by omega); subst e; exact hgt i i1 i2)).wide hp (Nat.le_refl _), ?_⟩
  have v1 : ∀ x, x < p → e[x]! = d[x]! := fun x h => by rw [R.at' x, if_neg (by omega), if_neg (by omega)]
  have v2 : e[p]! = d[m]! := by rw [R.at' p, if_pos (by omega)]; congr 1; omega
  have v3 : ∀ x, p < x → x ≤ m → e[x]! = d[x - 1]! := fun x h h3 => by rw [R.at' x, if_neg (by omega), if_pos (by omega)]; congr 1; omega
  intro i j i1 i2 i3
  by_cases c1 : i < p
  · rw [v1 i c1]
    by_cases c2 : j < p
    · rw [v1 j c2]; exact h1 _ _ i1 i2 (by omega)
    · by_cases c3 : j = p
      · rw [c3, v2]; exact hle i i1 c1
      · rw [v3 j (by omega) (by omega)]; exact h1 _ _ i1 (by omega) (by omega)
  · by_cases c4 : i = p
    · rw [c4, v2]
      by_cases c3 : j = p
      · rw [c3, v2]; exact Int.le_refl _
      · rw [v3 j (by omega) (by omega)]; exact Int.le_of_lt (hgt _ (by omega) (by omega))
    · rw [v3 i (by omega) (by omega), v3 j (by omega) (by omega)]; exact h1 _ _ (by omega) (by omega) (by omega)
theorem up_start {α : Type} [Inhabited α] (a : Nat) (d : Array α) : Rot a (a + 1) (a + 1) d d := ⟨rfl, fun x => by (repeat' split) <;> first | (exfalso; omega) | rfl | (congr 1; omega)⟩
theorem up_step {α : Type} [Inhabited α] {a k : Nat} {d e : Array α} (ha : a ≤ k) (hk : k + 1 < d.size) (h : Rot a (a + 1) (k + 1) d e) : Rot a (a + 1) (k + 1 + 1) d (swp e k (k + 1)) := by
  have hs := h.size
  refine ⟨by rw [size_swp', hs], fun x => ?_⟩
  rw [swp_at e k (k + 1) (by omega) (by omega), h.at' x, h.at' k, h.at' (k + 1)]
  (repeat' split) <;> first | (exfalso; omega) | rfl | (congr 1; omega)
theorem down_start {α : Type} [Inhabited α] (m : Nat) (d : Array α) : Rot m m (m + 1) d d := ⟨rfl, fun x => by (repeat' split) <;> first | (exfalso; omega) | rfl | (congr 1; omega)⟩
theorem down_step {α : Type} [Inhabited α] {m k : Nat} {d e : Array α} (hk : k + 1 ≤ m) (hm : m < d.size) (h : Rot (k + 1) m (m + 1) d e) : Rot k m (m + 1) d (swp e (k + 1) k) := by
  have hs := h.size
  refine ⟨by rw [size_swp', hs], fun x => ?_⟩
  rw [swp_at e (k + 1) k (by omega) (by omega), h.at' x, h.at' k, h.at' (k + 1)]
  (repeat' split) <;> first | (exfalso; omega) | rfl | (congr 1; omega)

set_option maxHeartbeats 4000000 in
set_option maxRecDepth 1000000 in
theorem sym_left (k : Nat) (aE : ∀ w, (isAgg 64).run Tryd.prog w = .ok true w) (zE : ∀ w, (Go.sizeOf 64).run Tryd.prog w = .ok k w) (enc : Sp → List Value) (key : Sp → Int) (cf : Sp → Sp → Int) (hcf : ∀ x y, cf x y < 0 ↔ key x < key y) (g : Nat) (cb : Array Value) (blk off cap a b : Nat) (d0 d : Array Sp) (w0 w : World)
    (eg : ∀ args w, (callFunc g args).run Tryd.prog w = .ok (.enter g args) w) (hC : CmpLays Tryd.prog g cb enc k cf blk off d.size w0)
    (R : RowK enc k w0 blk off d0) (hs : d0.size = d.size) (S : SWK enc k w0 blk off d w) (hmb : a + 1 < b) (hb : b ≤ d.size) (hsz : d.size < 4611686018427387904) (h2 : SortK key d (a + 1) b) :
    Calls Tryd.prog 49 #[.slice (some ⟨blk, off, none⟩) d.size cap, .int .i64 a, .int .i64 ((a + 1 : Nat) : Int), .int .i64 b, .func (.func g) #[] cb] w fun e w' => e = .returned (.tuple #[]) ∧ ∃ d', (Mrg key a b d d' ∧ SortK key d' a b) ∧ SWK enc k w0 blk off d' w' := by
  have mixed := span_mixed
  have S0 : Aside (SWK enc k w0 blk off d w) := S
  have HC : Aside _ := hC
  have H2 := Lib.hid h2
  have HF := Lib.hid hcf
  clear S hC h2 hcf
  have z1 : (((a + 1 : Nat) : Int) - (a : Int) == 1) = true := by rw [beq_iff_eq]; omega
  obtain ⟨m, hm⟩ : ∃ m, m = a + 1 := ⟨_, rfl⟩
  rw [← hm] at z1 ⊢
  have HM := Lib.hid hm
  have hmb' : m < b := by omega
  have ham : a < m := by omega
  clear hm hmb
  go_enter Tryd.func49, Tryd.ntmps49
  go_wp2
  go_loopg [10, 11] (b - a) (fun kx s10 s11 wr => ∃ (i j : Nat), s10 = .int .i64 i ∧ s11 = .int .i64 j ∧ m ≤ i ∧ i ≤ j ∧ j ≤ b ∧ j - i ≤ kx ∧ Aside (SWK enc k w0 blk off d wr) ∧ Hid ((i = m ∨ key d[i - 1]! < key d[a]!) ∧ (j = b ∨ key d[a]! ≤ key d[j]!)))
  case atStart => exact ⟨m, b, by go_num, by go_num, by omega, by omega, by omega, by omega, S0, Lib.hid ⟨.inl rfl, .inl rfl⟩⟩
  case round =>
    clear S0
    obtain ⟨i, j, rfl, rfl, hmi, hij, hjb, hkx, S1, HQ⟩ := hrel
    by_cases hlt : i < j
    · have hltz : (i : Int) < (j : Int) := by omega
      have hda : a < d.size := by have := HM.out; omega
      have q1 : ((i : Int) + (j : Int)) / 2 = (((i + j) / 2 : Nat) : Int) := by omega
      have q2 : (i + j) / 2 < j := by omega
      have q3 : i ≤ (i + j) / 2 := by omega
      obtain ⟨h, hh⟩ : ∃ h, (i + j) / 2 = h := ⟨_, rfl⟩
      rw [hh] at q1 q2 q3
      have HH := Lib.hid hh
      have HQ1 := Lib.hid q1
      clear hh q1
      have l1 := S1.out.ld R (by omega) Tryd.prog h (by omega)
      have l2 := S1.out.ld R (by omega) Tryd.prog a (by omega)
      obtain ⟨x1, hx1⟩ : ∃ x, x = d[h]! := ⟨_, rfl⟩
      obtain ⟨y1, hy1⟩ : ∃ x, x = d[a]! := ⟨_, rfl⟩
      rw [← hx1] at l1
      rw [← hy1] at l2
      have hc1 := S1.out.cmp HC.out rfl x1 y1
      have HX := Lib.hid (And.intro hx1 hy1)
      clear hx1 hy1
      have eh : ((h : Int)).toNat = h := by omega
      have ph : (0 : Int) ≤ (h : Int) := by omega
      have bh : (h : Int) < (d.size : Int) := by omega
      have ea : ((a : Int)).toNat = a := by omega
      have pa : (0 : Int) ≤ (a : Int) := by omega
      have ba : (a : Int) < (d.size : Int) := by omega
      have q4 := HQ1.out
      by_cases hv : cf x1 y1 < 0
      · have hd : decide (cf x1 y1 < 0) = true := decide_eq_true hv
        go_wp2_with fail
        go_quiet_grown (first | (go_at_fn g; refine Calls.grown_of (hc1 _ _)))
        have SV1 : Aside (SWK enc k w0 blk off d (grow (wr.drewN nq) osq)) := S1.out.grown nq osq
        clear l1 l2 hc1 S1
        generalize grow (wr.drewN nq) osq = wv1 at SV1 ⊢
        clear nq osq
        go_wp2
        go_roundg (j - (h + 1))
        case measure => omega
        case rel => exact ⟨h + 1, j, by go_num, rfl, by omega, by omega, hjb, Nat.le_refl _, SV1, Lib.hid ⟨.inr (by rw [Nat.add_sub_cancel, ← HX.out.1, ← HX.out.2]; exact (HF.out _ _).1 hv), HQ.out.2⟩⟩
      · have hd : decide (cf x1 y1 < 0) = false := decide_eq_false hv
        go_wp2_with fail
        go_quiet_grown (first | (go_at_fn g; refine Calls.grown_of (hc1 _ _)))
        have SV1 : Aside (SWK enc k w0 blk off d (grow (wr.drewN nq) osq)) := S1.out.grown nq osq
        clear l1 l2 hc1 S1
        generalize grow (wr.drewN nq) osq = wv1 at SV1 ⊢
        clear nq osq
        go_wp2
        go_roundg (h - i)
        case measure => omega
        case rel => exact ⟨i, h, rfl, by go_num, hmi, by omega, by omega, Nat.le_refl _, SV1, Lib.hid ⟨HQ.out.1, .inr (by rw [← HX.out.1, ← HX.out.2]; exact Int.not_lt.1 (fun h => by have := (HF.out x1 y1).2 h; omega))⟩⟩
    · have hltz : ¬ (i : Int) < (j : Int) := by omega
      obtain rfl : j = i := by omega
      clear hkx hij
      go_wp2
      go_loopg [13] (j - a) (fun kx s13 wr => ∃ (u : Nat) (dk : Array Sp), s13 = .int .i64 u ∧ a ≤ u ∧ u < j ∧ j - u ≤ kx + 1 ∧ dk.size = d.size ∧ Aside (SWK enc k w0 blk off dk wr) ∧ Hid (Rot a (a + 1) (u + 1) d dk))
      case atStart => exact ⟨a, d, by go_num, by omega, by have := HM.out; omega, by omega, rfl, S1, Lib.hid (up_start a d)⟩
      case round =>
        clear S1
        obtain ⟨u, dk, rfl, hau, huj, hkx, hds, S1, HS⟩ := hrel
        by_cases hlt : u + 1 < j
        · have hltz : (u : Int) < (j : Int) - 1 := by omega
          have hj1 : 1 ≤ (j : Int) := by omega
          go_wp2_with fail
          have ea44 : ((u : Int)).toNat = u := by omega
          have pa44 : (0 : Int) ≤ (u : Int) := by omega
          have ba44 : (u : Int) < (d.size : Int) := by omega
          have ec44 : ((u : Int) + 1).toNat = u + 1 := by omega
          have pc44 : (0 : Int) ≤ (u : Int) + 1 := by omega
          have bc44 : (u : Int) + 1 < (d.size : Int) := by omega
          have rc44 : IntKind.i64.wrap ((u : Int) + 1) = (u : Int) + 1 := by rw [IntKind.wrap_i64]; omega
          have S2 : Aside (SWK enc k w0 blk off (swp dk u (u + 1)) ((wr.drew.setCells blk (off + u * k) (enc dk[u + 1]!)).setCells blk (off + (u + 1) * k) (enc dk[u]!))) := S1.out.swapped R u (u + 1) (by omega) (by omega)
          have l44a := S1.out.ld1 R (by omega) Tryd.prog u (by omega)
          have l44b := S1.out.ld1 R (by omega) Tryd.prog (u + 1) (by omega)
          have s44a := S1.out.st1 R (by omega) Tryd.prog u (by omega) dk[u + 1]!
          have s44b := S1.out.st2 R (by omega) Tryd.prog u (u + 1) (by omega) (by omega) dk[u + 1]! dk[u]!
          have n44a : (enc dk[u]!).length = k := R.hk _
          have n44b : (enc dk[u + 1]!).length = k := R.hk _
          generalize enc dk[u]! = cI44 at S2 l44a s44b n44a
          generalize enc dk[u + 1]! = cJ44 at S2 l44b s44a s44b n44b
          clear S1
          go_wp2_with fail
          go_big_region_o
          clear l44a l44b s44a s44b
          generalize (wr.drew.setCells blk (off + u * k) cJ44).setCells blk (off + (u + 1) * k) cI44 = w2 at S2 ⊢
          go_wp2
          go_roundg (j - (u + 1) - 1)
          case measure => omega
          case rel => exact ⟨u + 1, swp dk u (u + 1), by go_num, by omega, by omega, by omega, by rw [size_swp']; exact hds, S2, Lib.hid (up_step hau (by omega) HS.out)⟩
        · have hltz : ¬ (u : Int) < (j : Int) - 1 := by omega
          obtain rfl : j = u + 1 := by omega
          go_wp2
          (try simp only [Exit.inBlock, Exit.then])
          refine bodyPost_ret (results_none rfl _ _ _) rfl ?_
          have hm := HM.out
          subst hm
          exact ⟨rfl, dk, one_left H2.out hmi hjb hb (by rcases HQ.out.1 with h | h; exact .inl h; exact .inr h) HQ.out.2 HS.out, S1.out⟩
set_option maxHeartbeats 4000000 in
set_option maxRecDepth 1000000 in
theorem sym_right (k : Nat) (aE : ∀ w, (isAgg 64).run Tryd.prog w = .ok true w) (zE : ∀ w, (Go.sizeOf 64).run Tryd.prog w = .ok k w) (enc : Sp → List Value) (key : Sp → Int) (cf : Sp → Sp → Int) (hcf : ∀ x y, cf x y < 0 ↔ key x < key y) (g : Nat) (cb : Array Value) (blk off cap a m : Nat) (d0 d : Array Sp) (w0 w : World)
    (eg : ∀ args w, (callFunc g args).run Tryd.prog w = .ok (.enter g args) w) (hC : CmpLays Tryd.prog g cb enc k cf blk off d.size w0)
    (R : RowK enc k w0 blk off d0) (hs : d0.size = d.size) (S : SWK enc k w0 blk off d w) (ham : a + 1 < m) (hb : m < d.size) (hsz : d.size < 4611686018427387904) (h2 : SortK key d a m) :
    Calls Tryd.prog 49 #[.slice (some ⟨blk, off, none⟩) d.size cap, .int .i64 a, .int .i64 m, .int .i64 ((m + 1 : Nat) : Int), .func (.func g) #[] cb] w fun e w' => e = .returned (.tuple #[]) ∧ ∃ d', (Mrg key a (m + 1) d d' ∧ SortK key d' a (m + 1)) ∧ SWK enc k w0 blk off d' w' := by
  have mixed := span_mixed
  have S0 : Aside (SWK enc k w0 blk off d w) := S
  have HC : Aside _ := hC
  have H2 := Lib.hid h2
  have HF := Lib.hid hcf
  clear S hC h2 hcf
  have z1 : ((m : Int) - (a : Int) == 1) = false := by rw [beq_eq_false_iff_ne]; omega
  have z2 : (((m + 1 : Nat) : Int) - (m : Int) == 1) = true := by rw [beq_iff_eq]; omega
  obtain ⟨b, hbm⟩ : ∃ b, b = m + 1 := ⟨_, rfl⟩
  rw [← hbm] at z2 ⊢
  have HM := Lib.hid hbm
  have hmb' : m < b := by omega
  have hbd : b ≤ d.size := by omega
  clear hbm
  go_enter Tryd.func49, Tryd.ntmps49
  go_wp2
  go_loopg [14, 15] (m - a) (fun kx s10 s11 wr => ∃ (i j : Nat), s10 = .int .i64 i ∧ s11 = .int .i64 j ∧ a ≤ i ∧ i ≤ j ∧ j ≤ m ∧ j - i ≤ kx ∧ Aside (SWK enc k w0 blk off d wr) ∧ Hid ((i = a ∨ key d[i - 1]! ≤ key d[m]!) ∧ (j = m ∨ key d[m]! < key d[j]!)))
  case atStart => exact ⟨a, m, by go_num, by go_num, by omega, by omega, by omega, by omega, S0, Lib.hid ⟨.inl rfl, .inl rfl⟩⟩
  case round =>
    clear S0
    obtain ⟨i, j, rfl, rfl, hmi, hij, hjb, hkx, S1, HQ⟩ := hrel
    by_cases hlt : i < j
    · have hltz : (i : Int) < (j : Int) := by omega
      have q1 : ((i : Int) + (j : Int)) / 2 = (((i + j) / 2 : Nat) : Int) := by omega
      have q2 : (i + j) / 2 < j := by omega
      have q3 : i ≤ (i + j) / 2 := by omega
      obtain ⟨h, hh⟩ : ∃ h, (i + j) / 2 = h := ⟨_, rfl⟩
      rw [hh] at q1 q2 q3
      have HH := Lib.hid hh
      have HQ1 := Lib.hid q1
      clear hh q1
      have l1 := S1.out.ld R (by omega) Tryd.prog h (by omega)
      have l2 := S1.out.ld R (by omega) Tryd.prog m (by omega)
      obtain ⟨x1, hx1⟩ : ∃ x, x = d[h]! := ⟨_, rfl⟩
      obtain ⟨y1, hy1⟩ : ∃ x, x = d[m]! := ⟨_, rfl⟩
      rw [← hx1] at l1
      rw [← hy1] at l2
      have hc1 := S1.out.cmp HC.out rfl y1 x1
      have HX := Lib.hid (And.intro hx1 hy1)
      clear hx1 hy1
      have eh : ((h : Int)).toNat = h := by omega
      have ph : (0 : Int) ≤ (h : Int) := by omega
      have bh : (h : Int) < (d.size : Int) := by omega
      have ea : ((m : Int)).toNat = m := by omega
      have pa : (0 : Int) ≤ (m : Int) := by omega
      have ba : (m : Int) < (d.size : Int) := by omega
      have q4 := HQ1.out
      by_cases hv : cf y1 x1 < 0
      · have hd : decide (cf y1 x1 < 0) = true := decide_eq_true hv
        go_wp2_with fail
        go_quiet_grown (first | (go_at_fn g; refine Calls.grown_of (hc1 _ _)))
        have SV1 : Aside (SWK enc k w0 blk off d (grow (wr.drewN nq) osq)) := S1.out.grown nq osq
        clear l1 l2 hc1 S1
        generalize grow (wr.drewN nq) osq = wv1 at SV1 ⊢
        clear nq osq
        go_wp2
        go_roundg (h - i)
        case measure => omega
        case rel => exact ⟨i, h, rfl, by go_num, hmi, by omega, by omega, Nat.le_refl _, SV1, Lib.hid ⟨HQ.out.1, .inr (by rw [← HX.out.1, ← HX.out.2]; exact (HF.out _ _).1 hv)⟩⟩
      · have hd : decide (cf y1 x1 < 0) = false := decide_eq_false hv
        go_wp2_with fail
        go_quiet_grown (first | (go_at_fn g; refine Calls.grown_of (hc1 _ _)))
        have SV1 : Aside (SWK enc k w0 blk off d (grow (wr.drewN nq) osq)) := S1.out.grown nq osq
        clear l1 l2 hc1 S1
        generalize grow (wr.drewN nq) osq = wv1 at SV1 ⊢
        clear nq osq
        go_wp2
        go_roundg (j - (h + 1))
        case measure => omega
        case rel => exact ⟨h + 1, j, by go_num, rfl, by omega, by omega, hjb, Nat.le_refl _, SV1, Lib.hid ⟨.inr (by rw [Nat.add_sub_cancel, ← HX.out.1, ← HX.out.2]; exact Int.not_lt.1 (fun h => by have := (HF.out y1 x1).2 h; omega)), HQ.out.2⟩⟩
    · have hltz : ¬ (i : Int) < (j : Int) := by omega
      obtain rfl : j = i := by omega
      clear hkx hij
      go_wp2
      go_loopg [17] (m - j) (fun kx s13 wr => ∃ (u : Nat) (dk : Array Sp), s13 = .int .i64 u ∧ j ≤ u ∧ u ≤ m ∧ u - j ≤ kx ∧ dk.size = d.size ∧ Aside (SWK enc k w0 blk off dk wr) ∧ Hid (Rot u m (m + 1) d dk))
      case atStart => exact ⟨m, d, by go_num, by omega, by omega, by omega, rfl, S1, Lib.hid (down_start m d)⟩
      case round =>
        clear S1
        obtain ⟨u, dk, rfl, hju, hum, hkx, hds, S1, HS⟩ := hrel
        by_cases hlt : j < u
        · have hltz : (j : Int) < (u : Int) := by omega
          go_wp2_with fail
          have ea44 : ((u : Int)).toNat = u := by omega
          have pa44 : (0 : Int) ≤ (u : Int) := by omega
          have ba44 : (u : Int) < (d.size : Int) := by omega
          have ec44 : ((u : Int) - 1).toNat = u - 1 := by omega
          have pc44 : (0 : Int) ≤ (u : Int) - 1 := by omega
          have pd44 : (1 : Int) ≤ (u : Int) := by omega
          have bc44 : (u : Int) - 1 < (d.size : Int) := by omega
          have rc44 : IntKind.i64.wrap ((u : Int) - 1) = (u : Int) - 1 := by rw [IntKind.wrap_i64]; omega
          have S2 : Aside (SWK enc k w0 blk off (swp dk u (u - 1)) ((wr.drew.setCells blk (off + u * k) (enc dk[u - 1]!)).setCells blk (off + (u - 1) * k) (enc dk[u]!))) := S1.out.swapped R u (u - 1) (by omega) (by omega)
          have l44a := S1.out.ld1 R (by omega) Tryd.prog u (by omega)
          have l44b := S1.out.ld1 R (by omega) Tryd.prog (u - 1) (by omega)
          have s44a := S1.out.st1 R (by omega) Tryd.prog u (by omega) dk[u - 1]!
          have s44b := S1.out.st2 R (by omega) Tryd.prog u (u - 1) (by omega) (by omega) dk[u - 1]! dk[u]!
          have n44a : (enc dk[u]!).length = k := R.hk _
          have n44b : (enc dk[u - 1]!).length = k := R.hk _
          generalize enc dk[u]! = cI44 at S2 l44a s44b n44a
          generalize enc dk[u - 1]! = cJ44 at S2 l44b s44a s44b n44b
          clear S1
          go_wp2_with fail
          go_big_region_o
          clear l44a l44b s44a s44b
          generalize (wr.drew.setCells blk (off + u * k) cJ44).setCells blk (off + (u - 1) * k) cI44 = w2 at S2 ⊢
          go_wp2
          go_roundg (u - 1 - j)
          case measure => omega
          case rel => exact ⟨u - 1, swp dk u (u - 1), by go_num, by omega, by omega, by omega, by rw [size_swp']; exact hds, S2, Lib.hid (by
            have h := HS.out
            obtain ⟨v, rfl⟩ : ∃ v, u = v + 1 := ⟨u - 1, by omega⟩
            exact down_step hum hb h)⟩
        · have hltz : ¬ (j : Int) < (u : Int) := by omega
          obtain rfl : u = j := by omega
          go_wp2
          (try simp only [Exit.inBlock, Exit.then])
          refine bodyPost_ret (results_none rfl _ _ _) rfl ?_
          have hm := HM.out
          subst hm
          exact ⟨rfl, dk, one_right H2.out hmi hjb hb HQ.out.1 HQ.out.2 HS.out, S1.out⟩
end Go.Proofs.YtcilnbkmaoneaaaDoor
set_option linter.unusedSimpArgs false
set_option linter.unusedVariables false
namespace Go.Proofs.YtcilnbkmaoneaaaDoor
open Go.Shelf Go.RowKit Go.Lib Go.Sort Go.PlainAid

set_option maxHeartbeats 8000000 in
set_option maxRecDepth 1000000 in
theorem sym_k (k : Nat) (aE : ∀ w, (isAgg 64).run Tryd.prog w = .ok true w) (zE : ∀ w, (Go.sizeOf 64).run Tryd.prog w = .ok k w) (enc : Sp → List Value) (key : Sp → Int) (cf : Sp → Sp → Int) (hcf : ∀ x y, cf x y < 0 ↔ key x < key y) (g : Nat) (cb : Array Value) (blk off cap : Nat) (d0 : Array Sp) (w0 : World)
    (eg : ∀ args w, (callFunc g args).run Tryd.prog w = .ok (.enter g args) w) (hC : CmpLays Tryd.prog g cb enc k cf blk off d0.size w0)
    (R : RowK enc k w0 blk off d0) (hsz : d0.size < 4611686018427387904) : ∀ (F a m b : Nat) (d : Array Sp) (w : World), b - a ≤ F → d.size = d0.size → SWK enc k w0 blk off d w → a < m → m < b → b ≤ d0.size → SortK key d a m → SortK key d m b →
    Calls Tryd.prog 49 #[.slice (some ⟨blk, off, none⟩) d0.size cap, .int .i64 a, .int .i64 m, .int .i64 b, .func (.func g) #[] cb] w fun e w' => e = .returned (.tuple #[]) ∧ ∃ d', (Mrg key a b d d' ∧ SortK key d' a b) ∧ SWK enc k w0 blk off d' w' := by
  intro F
  induction F with
  | zero => intro a m b d w hF hds S ham hmb; omega
  | succ F ih =>
    intro a m b d w hF hds S ham hmb hb h1 h2
    by_cases hone : m = a + 1
    · subst hone
      have := sym_left k aE zE enc key cf hcf g cb blk off cap a b d0 d w0 w eg (by rw [hds]; exact hC) R hds.symm S hmb (by omega) (by omega) h2
      rw [hds] at this
      exact this
    by_cases hone2 : b = m + 1
    · subst hone2
      have := sym_right k aE zE enc key cf hcf g cb blk off cap a m d0 d w0 w eg (by rw [hds]; exact hC) R hds.symm S (by omega) (by omega) (by omega) h1
      rw [hds] at this
      exact this
    have mixed := span_mixed
    have S0 : Aside (SWK enc k w0 blk off d w) := S
    have HC : Aside _ := hC
    have H12 := Lib.hid (And.intro h1 h2)
    have HF := Lib.hid hcf
    have HD := Lib.hid hds
    have HI := Lib.hid ih
    have HRot := Lib.hid (fun (p q r : Nat) (D : Array Sp) (W : World) (g1 : D.size = d0.size) (g2 : SWK enc k w0 blk off D W) (g3 : p < q) (g4 : q < r) (g5 : r ≤ d0.size) => by
      have := rotate_k k aE zE enc g cb blk off cap p q r d0 D w0 W R g1.symm g2 g3 g4 (by omega) (by omega)
      rw [g1] at this
      exact this)
    clear S hC h1 h2 hcf ih hds
    have z1 : ((m : Int) - (a : Int) == 1) = false := by rw [beq_eq_false_iff_ne]; omega
    have z2 : ((b : Int) - (m : Int) == 1) = false := by rw [beq_eq_false_iff_ne]; omega
    have em : ((a : Int) + (b : Int)) / 2 = (((a + b) / 2 : Nat) : Int) := by omega
    have hmid1 : a < (a + b) / 2 := by omega
    have hmid2 : (a + b) / 2 < b := by omega
    have hmid3 : 2 * ((a + b) / 2) ≤ a + b := by omega
    have hmid4 : a + b ≤ 2 * ((a + b) / 2) + 1 := by omega
    obtain ⟨mid, hmid⟩ : ∃ mid, (a + b) / 2 = mid := ⟨_, rfl⟩
    rw [hmid] at em hmid1 hmid2 hmid3 hmid4
    clear hmid hone hone2
    go_enter Tryd.func49, Tryd.ntmps49
    go_upto_if 140 with fail
    go_cut [20, 21] (fun s20 s21 wx => ∃ (s0 r0 : Nat), s20 = .int .i64 s0 ∧ s21 = .int .i64 r0 ∧ Hid (s0 ≤ r0 ∧ a ≤ s0 ∧ r0 ≤ m ∧ r0 ≤ mid ∧ mid + m - s0 ≤ b ∧ (s0 = a ∨ mid + m - s0 = b) ∧ (r0 = m ∨ r0 = mid)) ∧ wx = w)
    case first =>
      as_aux_lemma =>
        by_cases hc : mid < m
        · have hcz : (mid : Int) < (m : Int) := by omega
          go_wp2_with fail
          go_meet
          exact ⟨mid + m - b, mid, by go_num, by go_num, Lib.hid ⟨by omega, by omega, by omega, by omega, by omega, .inr (by omega), .inr rfl⟩, rfl⟩
        · have hcz : ¬ (mid : Int) < (m : Int) := by omega
          go_wp2_with fail
          go_meet
          exact ⟨a, m, by go_num, by go_num, Lib.hid ⟨by omega, by omega, by omega, by omega, by omega, .inl rfl, .inl rfl⟩, rfl⟩
    case rest =>
      obtain ⟨s0, r0, rfl, rfl, H0, rfl⟩ := hcut
      go_wp2
      go_loopg [20, 21] (b - a) (fun kx s20 s21 wr => ∃ (i j : Nat), s20 = .int .i64 i ∧ s21 = .int .i64 j ∧ Hid (s0 ≤ i ∧ i ≤ j ∧ j ≤ r0 ∧ j - i ≤ kx) ∧ Aside (SWK enc k w0 blk off d wr) ∧ Hid ((i = s0 ∨ key d[i - 1]! ≤ key d[mid + m - i]!) ∧ (j = r0 ∨ key d[mid + m - j - 1]! < key d[j]!)))
      case atStart =>
        have h0 := H0.out
        exact ⟨s0, r0, rfl, rfl, Lib.hid ⟨by omega, by omega, by omega, by omega⟩, S0, Lib.hid ⟨.inl rfl, .inl rfl⟩⟩
      case round =>
        clear S0
        obtain ⟨i, j, rfl, rfl, HI2, S1, HQ⟩ := hrel
        have hi2 := HI2.out
        have h0 := H0.out
        by_cases hlt : i < j
        · have hltz : (i : Int) < (j : Int) := by omega
          have hdz := HD.out
          have hib : i < b ∧ j ≤ b := by omega
          have q1 : ((i : Int) + (j : Int)) / 2 = (((i + j) / 2 : Nat) : Int) := by omega
          have q2 : (i + j) / 2 < j := by omega
          have q3 : i ≤ (i + j) / 2 := by omega
          obtain ⟨c, hh⟩ : ∃ c, (i + j) / 2 = c := ⟨_, rfl⟩
          rw [hh] at q1 q2 q3
          have HQ1 := Lib.hid q1
          clear hh q1
          obtain ⟨p, hp⟩ : ∃ p, mid + m - 1 - c = p := ⟨_, rfl⟩
          have hpz : (mid : Int) + (m : Int) - 1 - (c : Int) = (p : Int) := by omega
          have hpd : p < d0.size := by omega
          have hcd : c < d0.size := by omega
          have HP := Lib.hid (show p = mid + m - 1 - c ∧ c < mid + m from ⟨hp.symm, by omega⟩)
          have HPZ := Lib.hid hpz
          have l1 := S1.out.ld R HD.out Tryd.prog p (by omega)
          have l2 := S1.out.ld R HD.out Tryd.prog c (by omega)
          obtain ⟨x1, hx1⟩ : ∃ x, x = d[p]! := ⟨_, rfl⟩
          obtain ⟨y1, hy1⟩ : ∃ x, x = d[c]! := ⟨_, rfl⟩
          rw [← hx1] at l1
          rw [← hy1] at l2
          have hc1 := S1.out.cmp HC.out HD.out x1 y1
          have HX := Lib.hid (And.intro hx1 hy1)
          have HB := Lib.hid (show a ≤ i ∧ c < mid ∧ c < m ∧ c < r0 ∧ s0 ≤ c ∧ r0 - s0 ≤ b - a from by omega)
          have ep1 : 0 ≤ (mid : Int) + (m : Int) - 1 := by omega
          have ep2 : (mid : Int) + (m : Int) - 1 < 9223372036854775807 := by omega
          have ep3 : (c : Int) ≤ (mid : Int) + (m : Int) - 1 := by omega
          clear hx1 hy1 hp hpz hi2 h0 hdz hib
          have rp2 : IntKind.i64.wrap (p : Int) = (p : Int) := by rw [IntKind.wrap_i64]; omega
          have rp : IntKind.i64.wrap ((mid : Int) + (m : Int) - 1 - (c : Int)) = (p : Int) := by have := HPZ.out; rw [IntKind.wrap_i64]; omega
          have eh : ((c : Int)).toNat = c := by omega
          have ph : (0 : Int) ≤ (c : Int) := by omega
          have bh : (c : Int) < (d0.size : Int) := by omega
          have ea : ((p : Int)).toNat = p := by omega
          have pa : (0 : Int) ≤ (p : Int) := by omega
          have ba : (p : Int) < (d0.size : Int) := by omega
          have q4 := HQ1.out
          have q5 := HPZ.out
          by_cases hv : cf x1 y1 < 0
          · have hd : decide (cf x1 y1 < 0) = true := decide_eq_true hv
            go_wp2_with fail
            go_quiet_grown (first | (go_at_fn g; refine Calls.grown_of (hc1 _ _)))
            have SV1 : Aside (SWK enc k w0 blk off d (grow (wr.drewN nq) osq)) := S1.out.grown nq osq
            clear l1 l2 hc1 S1
            generalize grow (wr.drewN nq) osq = wv1 at SV1 ⊢
            clear nq osq
            go_wp2
            go_roundg (c - i)
            case measure => have := HI2.out; omega
            case rel =>
              have hi2 := HI2.out
              exact ⟨i, c, rfl, by go_num, Lib.hid ⟨by omega, by omega, by omega, Nat.le_refl _⟩, SV1, Lib.hid ⟨HQ.out.1, .inr (by rw [show mid + m - c - 1 = p from by have := HP.out; omega, ← HX.out.1, ← HX.out.2]; exact (HF.out _ _).1 hv)⟩⟩
          · have hd : decide (cf x1 y1 < 0) = false := decide_eq_false hv
            go_wp2_with fail
            go_quiet_grown (first | (go_at_fn g; refine Calls.grown_of (hc1 _ _)))
            have SV1 : Aside (SWK enc k w0 blk off d (grow (wr.drewN nq) osq)) := S1.out.grown nq osq
            clear l1 l2 hc1 S1
            generalize grow (wr.drewN nq) osq = wv1 at SV1 ⊢
            clear nq osq
            go_wp2
            go_roundg (j - (c + 1))
            case measure => have := HI2.out; omega
            case rel =>
              have hi2 := HI2.out
              exact ⟨c + 1, j, by go_num, rfl, Lib.hid ⟨by omega, by omega, by omega, Nat.le_refl _⟩, SV1, Lib.hid ⟨.inr (by rw [Nat.add_sub_cancel, show mid + m - (c + 1) = p from by have := HP.out; omega, ← HX.out.1, ← HX.out.2]; exact Int.not_lt.1 (fun h => by have := (HF.out x1 y1).2 h; omega)), HQ.out.2⟩⟩
        · have hltz : ¬ (i : Int) < (j : Int) := by omega
          obtain rfl : j = i := by omega
          have HS := Lib.hid (show a ≤ j ∧ j ≤ m ∧ j ≤ mid ∧ mid + m - j ≤ b ∧ (j = a ∨ mid + m - j = b ∨ key d[j - 1]! ≤ key d[mid + m - j]!) ∧ (j = m ∨ mid + m - j = m ∨ key d[mid + m - j - 1]! < key d[j]!) from by
            refine ⟨by omega, by omega, by omega, by omega, ?_, ?_⟩
            · rcases HQ.out.1 with h | h
              · rcases h0.2.2.2.2.2.1 with g | g
                · exact .inl (by omega)
                · exact .inr (.inl (by omega))
              · exact .inr (.inr h)
            · rcases HQ.out.2 with h | h
              · rcases h0.2.2.2.2.2.2 with g | g
                · exact .inl (by omega)
                · exact .inr (.inl (by omega))
              · exact .inr (.inr h))
          have hjm : j ≤ mid := HS.out.2.2.1
          have hjm2 : j ≤ m := HS.out.2.1
          have haj : a ≤ j := HS.out.1
          obtain ⟨en, hen⟩ : ∃ en, mid + m - j = en := ⟨_, rfl⟩
          rw [hen] at HS
          have HE := Lib.hid hen
          have hez : (mid : Int) + (m : Int) - (j : Int) = (en : Int) := by omega
          have henb : en ≤ b := by have := HS.out; omega
          have henm : m ≤ en := by omega
          clear HQ h0 H0 HI2 hi2 hlt hen
          go_upto_region 39 with fail
          go_cut [185] (fun s185 wx => s185 = .bool (decide (j < m ∧ m < en)) ∧ wx = wr)
          case first =>
            as_aux_lemma =>
              by_cases c1 : j < m
              · have c1z : (j : Int) < (m : Int) := by omega
                by_cases c2 : m < en
                · have c2z : (m : Int) < (en : Int) := by omega
                  go_wp2_with fail
                  go_meet
                  exact ⟨by simp [c1, c2], rfl⟩
                · have c2z : ¬ (m : Int) < (en : Int) := by omega
                  go_wp2_with fail
                  go_meet
                  exact ⟨by simp [c1, c2], rfl⟩
              · have c1z : ¬ (j : Int) < (m : Int) := by omega
                go_wp2_with fail
                go_meet
                exact ⟨by simp [c1], rfl⟩
          case rest =>
          obtain ⟨rfl, rfl⟩ := hcut
          obtain ⟨B1, hB1⟩ : ∃ B, decide (j < m ∧ m < en) = B := ⟨_, rfl⟩
          rw [hB1]
          have HB1 := Lib.hid hB1
          clear hB1
          go_upto_if 185 with fail
          go_cut [] (fun wx => ∃ d1, Aside (SWK enc k w0 blk off d1 wx) ∧ Hid (d1.size = d0.size ∧ Rot j m en d d1))
          case first =>
            as_aux_lemma =>
              cases B1
              · have hn := of_decide_eq_false HB1.out
                go_wp2_with fail
                go_meet
                exact ⟨d, S1, Lib.hid ⟨HD.out, ⟨rfl, fun x => by (repeat' split) <;> first | (exfalso; omega) | rfl | (congr 1; omega)⟩⟩⟩
              · have hn := of_decide_eq_true HB1.out
                have HCall := Lib.hid (HRot.out j m en d _ HD.out S1.out hn.1 hn.2 (by omega))
                clear hn
                go_wp2_with fail
                (with_reducible refine (HCall.out).mono ?_)
                rintro _ w2 ⟨rfl, d', hd', S2⟩
                go_wp2_with fail
                go_meet
                exact ⟨d', S2, Lib.hid ⟨by rw [hd'.size]; exact HD.out, hd'⟩⟩
          case rest =>
            obtain ⟨d1, T1, HR1⟩ := hcut
            have HM := Lib.hid (sym_mid (mid := mid) (start := j) (en := en) H12.out.1 H12.out.2 ham hmb (by rw [HD.out]; omega) HS.out.1 HS.out.2.1 HS.out.2.2.1 HE.out.symm henb HS.out.2.2.2.2.1 HS.out.2.2.2.2.2 HR1.out.2)
            clear S1 HS hez
            go_upto_region 41 with fail
            go_cut [199] (fun s199 wx => s199 = .bool (decide (a < j ∧ j < mid)) ∧ wx = wc)
            case first =>
              as_aux_lemma =>
                by_cases c1 : a < j
                · have c1z : (a : Int) < (j : Int) := by omega
                  by_cases c2 : j < mid
                  · have c2z : (j : Int) < (mid : Int) := by omega
                    go_wp2_with fail
                    go_meet
                    exact ⟨by simp [c1, c2], rfl⟩
                  · have c2z : ¬ (j : Int) < (mid : Int) := by omega
                    go_wp2_with fail
                    go_meet
                    exact ⟨by simp [c1, c2], rfl⟩
                · have c1z : ¬ (a : Int) < (j : Int) := by omega
                  go_wp2_with fail
                  go_meet
                  exact ⟨by simp [c1], rfl⟩
            case rest =>
            obtain ⟨rfl, rfl⟩ := hcut
            obtain ⟨B2, hB2⟩ : ∃ B, decide (a < j ∧ j < mid) = B := ⟨_, rfl⟩
            rw [hB2]
            have HB2 := Lib.hid hB2
            clear hB2
            go_upto_if 199 with fail
            go_cut [] (fun wx => ∃ d2, Aside (SWK enc k w0 blk off d2 wx) ∧ Hid (d2.size = d0.size ∧ Mrg key a mid d1 d2 ∧ SortK key d2 a mid))
            case first =>
              as_aux_lemma =>
                cases B2
                · have hn := of_decide_eq_false HB2.out
                  have hs : SortK key d1 a mid := by
                    by_cases c1 : a < j
                    · obtain rfl : j = mid := by omega
                      exact HM.out.2.1
                    · obtain rfl : j = a := by omega
                      exact HM.out.2.2.1
                  go_wp2_with fail
                  go_meet
                  exact ⟨d1, T1, Lib.hid ⟨HR1.out.1, Mrg.refl _ _ _ _, hs⟩⟩
                · have hn := of_decide_eq_true HB2.out
                  have HCall := Lib.hid (HI.out a j mid d1 _ (by omega) HR1.out.1 T1.out hn.1 hn.2 (by omega) HM.out.2.1 HM.out.2.2.1)
                  clear hn
                  go_wp2_with fail
                  (with_reducible refine (HCall.out).mono ?_)
                  rintro _ w2 ⟨rfl, d', ⟨hd', hs'⟩, S2⟩
                  go_wp2_with fail
                  go_meet
                  exact ⟨d', S2, Lib.hid ⟨by rw [hd'.size]; exact HR1.out.1, hd', hs'⟩⟩
            case rest =>
              obtain ⟨d2, T2, HR2⟩ := hcut
              by_cases c1 : mid < en
              · have c1z : (mid : Int) < (en : Int) := by omega
                have hm1 : SortK key d2 mid en := HM.out.2.2.2.1.same (fun x x1 x2 => HR2.out.2.1.out x (.inr x1))
                have hm2 : SortK key d2 en b := HM.out.2.2.2.2.1.same (fun x x1 x2 => HR2.out.2.1.out x (.inr (by omega)))
                have HG := Lib.hid (And.intro hm1 hm2)
                clear hm1 hm2
                by_cases c2 : en < b
                · have c2z : (en : Int) < (b : Int) := by omega
                  have HCall := Lib.hid (HI.out mid en b d2 wc (by omega) HR2.out.1 T2.out c1 c2 (by omega) HG.out.1 HG.out.2)
                  go_wp2_with fail
                  (with_reducible refine (HCall.out).mono ?_)
                  rintro _ w2 ⟨rfl, d', ⟨hd', hs'⟩, S2⟩
                  go_wp2
                  go_end0
                  have h := sym_end (by omega) (by omega) HR2.out.2.1 hd' HR2.out.2.2 hs' HM.out.2.2.2.2.2
                  exact ⟨rfl, d', ⟨HM.out.1.trans h.1, h.2⟩, S2⟩
                · have c2z : ¬ (en : Int) < (b : Int) := by omega
                  obtain rfl : en = b := by omega
                  go_wp2
                  go_end0
                  have h := sym_end (by omega) (by omega) HR2.out.2.1 (Mrg.refl key mid en d2) HR2.out.2.2 HG.out.1 HM.out.2.2.2.2.2
                  exact ⟨rfl, d2, ⟨HM.out.1.trans h.1, h.2⟩, T2.out⟩
              · have c1z : ¬ (mid : Int) < (en : Int) := by omega
                obtain rfl : en = mid := by have := HE.out; omega
                have hm2 : SortK key d2 en b := HM.out.2.2.2.2.1.same (fun x x1 x2 => HR2.out.2.1.out x (.inr (by omega)))
                have HG := Lib.hid hm2
                clear hm2
                go_wp2
                go_end0
                have h := sym_end (by omega) (by omega) HR2.out.2.1 (Mrg.refl key en b d2) HR2.out.2.2 HG.out HM.out.2.2.2.2.2
                exact ⟨rfl, d2, ⟨HM.out.1.trans h.1, h.2⟩, T2.out⟩
end Go.Proofs.YtcilnbkmaoneaaaDoor
set_option linter.unusedSimpArgs false
set_option linter.unusedVariables false
namespace Go.Proofs.YtcilnbkmaoneaaaDoor
open Go.Shelf Go.RowKit Go.Lib Go.Sort Go.PlainAid

def renS : Go.Shelf.Ren := ⟨fun | 20 => 48 | _ => 0, fun | 0 => 0 | 3 => 3 | 4 => 4 | 22 => 22 | 24 => 64 | 25 => 96 | _ => 0, fun _ => 0⟩
theorem laysS : SlLaysF0.n20 Tryd.prog renS := {
  mixed := by kernel_rfl
  f20 := ⟨"slices.insertionSortCmpFunc[cochineal/policy.Span]", by decide, Tryd.func48.trans (congrArg some (by kernel_rfl))⟩
  t0 := by kernel_rfl
  a0 := fun w => by kernel_rfl
  z0 := fun w => by kernel_rfl
  v0 := fun w => by kernel_rfl
  t3 := by kernel_rfl
  a3 := fun w => by kernel_rfl
  z3 := fun w => by kernel_rfl
  v3 := fun w => by kernel_rfl
  t4 := by kernel_rfl
  a4 := fun w => by kernel_rfl
  z4 := fun w => by kernel_rfl
  v4 := fun w => by kernel_rfl
  t22 := by kernel_rfl
  a22 := fun w => by kernel_rfl
  z22 := fun w => by kernel_rfl
  v22 := fun w => by kernel_rfl
  t25 := by kernel_rfl
  a25 := fun w => by kernel_rfl
  z25 := fun w => by kernel_rfl
  v25 := fun w => by kernel_rfl }
theorem ltOf_key {α : Type} {key : α → Int} {cf : α → α → Int} (hcf : ∀ x y, cf x y < 0 ↔ key x < key y) : ltOf cf = ltK key := by
  funext x y
  unfold ltOf ltK
  exact decide_eq_decide.2 (hcf x y)
theorem swk_on {enc : Sp → List Value} {k : Nat} {w0 w : World} {blk off : Nat} {d : Array Sp} {g : Nat} {cb : Array Value} {cf : Sp → Sp → Int} {size : Nat} (S : SWK enc k w0 blk off d w) (hblk : blk < w0.heap.size) (hs : d.size = size) (hC : CmpLays Tryd.prog g cb enc k cf blk off size w0) : CmpLays Tryd.prog g cb enc k cf blk off size w := fun m os dk hdk x y => by
  obtain ⟨m', os', hw⟩ := S.on hblk m dk os (by omega)
  rw [hw]
  exact hC m' os' dk hdk x y
theorem insertion_k (k : Nat) (aE : ∀ w, (isAgg 64).run Tryd.prog w = .ok true w) (zE : ∀ w, (Go.sizeOf 64).run Tryd.prog w = .ok k w) (enc : Sp → List Value) (key : Sp → Int) (cf : Sp → Sp → Int) (hcf : ∀ x y, cf x y < 0 ↔ key x < key y) (g : Nat) (cb : Array Value) (blk off cap a b : Nat) (d0 d : Array Sp) (w0 w : World)
    (eg : ∀ args w, (callFunc g args).run Tryd.prog w = .ok (.enter g args) w) (hC : CmpLays Tryd.prog g cb enc k cf blk off d0.size w0)
    (R : RowK enc k w0 blk off d0) (hs : d.size = d0.size) (S : SWK enc k w0 blk off d w) (hab : a ≤ b) (hb : b ≤ d0.size) (hsz : d0.size < 4611686018427387904) :
    Calls Tryd.prog 48 #[.slice (some ⟨blk, off, none⟩) d0.size cap, .int .i64 a, .int .i64 b, .func (.func g) #[] cb] w fun e w' => e = .returned (.tuple #[]) ∧ ∃ d', (Mrg key a b d d' ∧ SortK key d' a b) ∧ SWK enc k w0 blk off d' w' := by
  have c := AnyQ.insertionSortCmpFunc (P := Tryd.prog) (ρ := renS) laysS k aE zE enc R.hk R.h1 cf g cb blk off cap a b d w eg (by rw [hs]; exact swk_on S R.hblk hs hC) (S.holds R.hblk R.hH hs) (S.lt R.hblk) hab (by omega) (by omega)
  rw [hs] at c
  refine c.mono ?_
  rintro e w' ⟨he, n, os, hw⟩
  rw [ltOf_key hcf] at hw
  have hm := mrg_insertion (key := key) a b d hab (by omega)
  refine ⟨he, _, hm, ?_⟩
  rw [hw]
  exact S.on R.hblk n _ os hm.1.size
set_option maxHeartbeats 8000000 in
set_option maxRecDepth 1000000 in
theorem stable_k (k : Nat) (aE : ∀ w, (isAgg 64).run Tryd.prog w = .ok true w) (zE : ∀ w, (Go.sizeOf 64).run Tryd.prog w = .ok k w) (enc : Sp → List Value) (key : Sp → Int) (cf : Sp → Sp → Int) (hcf : ∀ x y, cf x y < 0 ↔ key x < key y) (g : Nat) (cb : Array Value) (blk off cap : Nat) (d0 : Array Sp) (w0 : World)
    (eg : ∀ args w, (callFunc g args).run Tryd.prog w = .ok (.enter g args) w) (hC : CmpLays Tryd.prog g cb enc k cf blk off d0.size w0)
    (R : RowK enc k w0 blk off d0) (hsz : d0.size < 1000000000) :
    Calls Tryd.prog 46 #[.slice (some ⟨blk, off, none⟩) d0.size cap, .int .i64 d0.size, .func (.func g) #[] cb] w0 fun e w' => e = .returned (.tuple #[]) ∧ ∃ d', (Mrg key 0 d0.size d0 d' ∧ SortK key d' 0 d0.size) ∧ SWK enc k w0 blk off d' w' := by
  have mixed := span_mixed
  have S0 : Aside (SWK enc k w0 blk off d0 w0) := SWK.start R.hH
  have HIns := Lib.hid (fun (a b : Nat) (d : Array Sp) (w : World) (h1 : d.size = d0.size) (h2 : SWK enc k w0 blk off d w) (h3 : a ≤ b) (h4 : b ≤ d0.size) => insertion_k k aE zE enc key cf hcf g cb blk off cap a b d0 d w0 w eg hC R h1 h2 h3 h4 (by omega))
  have HSym := Lib.hid (fun (a m b : Nat) (d : Array Sp) (w : World) (h1 : d.size = d0.size) (h2 : SWK enc k w0 blk off d w) (h3 : a < m) (h4 : m < b) (h5 : b ≤ d0.size) (h6 : SortK key d a m) (h7 : SortK key d m b) => sym_k k aE zE enc key cf hcf g cb blk off cap d0 w0 eg hC R (by omega) (b - a) a m b d w (Nat.le_refl _) h1 h2 h3 h4 h5 h6 h7)
  obtain ⟨n, hn⟩ : ∃ n, d0.size = n := ⟨_, rfl⟩
  rw [hn] at HIns HSym hsz ⊢
  have HN := Lib.hid hn
  clear hC hcf eg hn
  go_enter Tryd.func46, Tryd.ntmps46
  go_wp2
  go_loopg [7, 8] (n + 20) (fun kx s7 s8 wr => ∃ (t a b : Nat) (dk : Array Sp), s7 = .int .i64 a ∧ s8 = .int .i64 b ∧ a ≤ n ∧ Hid (b = a + 20) ∧ n + 20 - a ≤ kx ∧ Hid (a = t * 20 ∧ dk.size = n ∧ Mrg key 0 n d0 dk ∧ Ins key dk 20 t) ∧ Aside (SWK enc k w0 blk off dk wr))
  case atStart => exact ⟨0, 0, 20, d0, by go_num, by go_num, by omega, Lib.hid (by omega), by omega, Lib.hid ⟨rfl, HN.out, Mrg.refl _ _ _ _, fun t ht => by omega⟩, S0⟩
  case round =>
    clear S0
    obtain ⟨t, a, b, dk, rfl, rfl, han, HBA, hkx, HQ, S1⟩ := hrel
    by_cases hlt : b ≤ n
    · have hltz : (b : Int) ≤ (n : Int) := by omega
      have HCall := Lib.hid (HIns.out a b dk wr HQ.out.2.1 S1.out (by have := HBA.out; omega) hlt)
      go_wp2_with fail
      (with_reducible refine (HCall.out).mono ?_)
      rintro _ w2 ⟨rfl, d', ⟨hd', hs'⟩, S2⟩
      have HD := Lib.hid (And.intro hd' hs')
      have S3 : Aside _ := S2
      clear hd' hs' S2
      go_wp2
      go_roundg (n + 20 - b)
      case measure => have := HBA.out; omega
      case rel =>
        have q := HQ.out
        have hdd := HD.out
        obtain rfl := HBA.out
        exact ⟨t + 1, a + 20, a + 20 + 20, d', by go_num, by go_num, hlt, Lib.hid rfl, Nat.le_refl _, Lib.hid ⟨by omega, by rw [hdd.1.size]; exact q.2.1, q.2.2.1.trans (hdd.1.wide (by omega) hlt), ins_step q.2.2.2 (by rw [← q.1]; exact hdd.1) (by rw [← q.1]; exact hdd.2)⟩, S3⟩
    · have hltz : ¬ (b : Int) ≤ (n : Int) := by omega
      have HCall := Lib.hid (HIns.out a n dk wr HQ.out.2.1 S1.out han (Nat.le_refl _))
      go_wp2_with fail
      (with_reducible refine (HCall.out).mono ?_)
      rintro _ w2 ⟨rfl, d', ⟨hd', hs'⟩, S2⟩
      have HB := Lib.hid (show d'.size = n ∧ Mrg key 0 n d0 d' ∧ Blk key d' 20 n from by
        have q := HQ.out
        exact ⟨by rw [hd'.size]; exact q.2.1, q.2.2.1.trans (hd'.wide (by omega) (Nat.le_refl _)), ins_end q.2.2.2 (by rw [← q.1]; exact hd') (by rw [← q.1]; exact hs') (by have := HBA.out; omega)⟩)
      have S3 : Aside _ := S2
      clear hd' hs' S2 HQ S1 HCall hlt hltz han hkx
      go_wp2
      go_loopg [6, 7, 8] n (fun kx s6 s7 s8 wr => ∃ (s : Nat) (dk : Array Sp), s6 = .int .i64 s ∧ 20 ≤ s ∧ s ≤ 2 * n + 20 ∧ n - s ≤ kx ∧ Hid (dk.size = n ∧ Mrg key 0 n d0 dk ∧ Blk key dk s n) ∧ Aside (SWK enc k w0 blk off dk wr))
      case atStart => exact ⟨20, d', by go_num, by omega, by omega, by omega, HB, S3⟩
      case round =>
        clear S3 HB
        obtain ⟨s, dk, rfl, hs20, hsn, hkx, HQ, S1⟩ := hrel
        by_cases hlt : s < n
        · have hltz : (s : Int) < (n : Int) := by omega
          go_wp2
          go_loopg [7, 8] (n + 2 * s) (fun kx2 s7 s8 wr => ∃ (t a b : Nat) (dk : Array Sp), s7 = .int .i64 a ∧ s8 = .int .i64 b ∧ a ≤ n ∧ Hid (b = a + 2 * s) ∧ n + 2 * s - a ≤ kx2 ∧ Hid (a = t * (2 * s) ∧ dk.size = n ∧ Mrg key 0 n d0 dk ∧ Blk2 key dk s n t) ∧ Aside (SWK enc k w0 blk off dk wr))
          case atStart => exact ⟨0, 0, 2 * s, dk, by go_num, by go_num, by omega, Lib.hid (by omega), by omega, Lib.hid ⟨by omega, HQ.out.1, HQ.out.2.1, blk_start HQ.out.2.2⟩, S1⟩
          case round =>
            clear S1 HQ dk
            obtain ⟨t, a, b, dk, rfl, rfl, han, HBA, hkx2, HQ, S1⟩ := hrel
            by_cases hle : b ≤ n
            · have hlez : (b : Int) ≤ (n : Int) := by omega
              have HCall := Lib.hid (HSym.out a (a + s) b dk wr HQ.out.2.1 S1.out (by omega) (by have := HBA.out; omega) hle (by
                have q := HQ.out
                have := blk2_low q.2.2.2 (by have := HBA.out; omega)
                rw [← q.1] at this
                exact this) (by
                have q := HQ.out
                have := blk2_high (b := b) q.2.2.2 hle (by have := HBA.out; omega)
                rw [← q.1] at this
                exact this))
              rw [show ((a + s : Nat) : Int) = (a : Int) + (s : Int) from by omega] at HCall
              go_wp2_with fail
              (with_reducible refine (HCall.out).mono ?_)
              rintro _ w2 ⟨rfl, d', ⟨hd', hs'⟩, S2⟩
              have HD := Lib.hid (And.intro hd' hs')
              have S3 : Aside _ := S2
              clear hd' hs' S2
              go_wp2
              go_roundg (n + 2 * s - b)
              case measure => have := HBA.out; omega
              case rel =>
                have q := HQ.out
                have hdd := HD.out
                have hb := HBA.out
                exact ⟨t + 1, b, b + 2 * s, d', by go_num, by go_num, hle, Lib.hid rfl, Nat.le_refl _, Lib.hid ⟨by rw [Nat.add_mul, Nat.one_mul]; omega, by rw [hdd.1.size]; exact q.2.1, q.2.2.1.trans (hdd.1.wide (by omega) hle), blk2_step q.2.2.2 (by rw [← q.1, ← hb]; exact hdd.1) (by rw [← q.1, ← hb]; exact hdd.2)⟩, S3⟩
            · have hlez : ¬ (b : Int) ≤ (n : Int) := by omega
              by_cases hm : a + s < n
              · have hmz : (a : Int) + (s : Int) < (n : Int) := by omega
                have HCall := Lib.hid (HSym.out a (a + s) n dk wr HQ.out.2.1 S1.out (by omega) hm (Nat.le_refl _) (by
                  have q := HQ.out
                  have := blk2_low q.2.2.2 (by have := HBA.out; omega)
                  rw [← q.1] at this
                  exact this) (by
                  have q := HQ.out
                  have := blk2_high (b := n) q.2.2.2 (Nat.le_refl _) (by have := HBA.out; omega)
                  rw [← q.1] at this
                  exact this))
                rw [show ((a + s : Nat) : Int) = (a : Int) + (s : Int) from by omega] at HCall
                go_wp2_with fail
                (with_reducible refine (HCall.out).mono ?_)
                rintro _ w2 ⟨rfl, d', ⟨hd', hs'⟩, S2⟩
                have HD := Lib.hid (And.intro hd' hs')
                have S3 : Aside _ := S2
                clear hd' hs' S2
                go_wp2
                go_roundg (n - 2 * s)
                case measure => omega
                case rel =>
                  have q := HQ.out
                  have hdd := HD.out
                  have hb := HBA.out
                  exact ⟨2 * s, d', by go_num, by omega, by omega, Nat.le_refl _, Lib.hid ⟨by rw [hdd.1.size]; exact q.2.1, q.2.2.1.trans (hdd.1.wide (by omega) (Nat.le_refl _)), blk2_rest q.2.2.2 (by rw [← q.1]; exact hdd.1) (by omega) (by rw [← q.1]; exact hdd.2)⟩, S3⟩
              · have hmz : ¬ (a : Int) + (s : Int) < (n : Int) := by omega
                go_wp2
                go_roundg (n - 2 * s)
                case measure => omega
                case rel =>
                  have q := HQ.out
                  have hb := HBA.out
                  exact ⟨2 * s, dk, by go_num, by omega, by omega, Nat.le_refl _, Lib.hid ⟨q.2.1, q.2.2.1, blk2_end q.2.2.2 (by omega) (by
                    have := q.2.2.2.2 (2 * t) (Nat.le_refl _)
                    have e1 : 2 * t * s = t * (2 * s) := by rw [Nat.mul_comm 2 t, Nat.mul_assoc]
                    rw [Nat.add_mul, Nat.one_mul, e1, ← q.1] at this
                    rw [← q.1]
                    exact this.part (Nat.le_refl _) (by omega))⟩, S1⟩
        · have hltz : ¬ (s : Int) < (n : Int) := by omega
          go_wp2
          go_end0
          have q := HQ.out
          exact ⟨rfl, dk, ⟨q.2.1, blk_all q.2.2 (by omega)⟩, S1.out⟩
end Go.Proofs.YtcilnbkmaoneaaaDoor
