/-
  Layer 7: append of a part of a list in memory; where a span goes.
-/
import Derived.Test.YtcilnbkmaoneaaaCheck
import Derived.Test.YtcilnbkmaoneaaaSorted
set_option linter.unusedSimpArgs false
set_option linter.unusedVariables false
namespace Go.Proofs.Ytcilnbkmaoneaaa
open Go.RowKit Go.PlainAid

section
variable {α : Type} {enc : α → List Value} {k : Nat}
theorem flat_inv (hk : ∀ x, (enc x).length = k) (hk0 : 0 < k) : ∀ (l : List α) (j : Nat) (u : Value), (l.flatMap enc)[j]? = some u → ∃ x, l[j / k]? = some x ∧ (enc x)[j % k]? = some u
  | [], j, u, h => by simp at h
  | y :: r, j, u, h => by
    rw [List.flatMap_cons] at h
    by_cases hj : j < k
    · rw [List.getElem?_append_left (by rw [hk]; exact hj)] at h
      exact ⟨y, by rw [Nat.div_eq_of_lt hj]; rfl, by rw [Nat.mod_eq_of_lt hj]; exact h⟩
    · rw [List.getElem?_append_right (by rw [hk]; omega), hk] at h
      obtain ⟨x, h1, h2⟩ := flat_inv hk hk0 r (j - k) u h
      refine ⟨x, ?_, ?_⟩
      · rw [Nat.div_eq_sub_div hk0 (by omega), List.getElem?_cons_succ]; exact h1
      · rw [Nat.mod_eq_sub_mod (by omega)]; exact h2
theorem holds_add (hk : ∀ x, (enc x).length = k) (hk0 : 0 < k) {w : World} {g o : Nat} {l : List α} (h : ∀ j (x : α), l[j]? = some x → ∀ i u, (enc x)[i]? = some u → w.cell? ⟨g, o + j * k + i, none⟩ = some u) :
    ∀ j u, (l.flatMap enc)[j]? = some u → w.cell? ((⟨g, o, none⟩ : Addr).add j) = some u := by
  intro j u hu
  obtain ⟨x, h1, h2⟩ := flat_inv hk hk0 l j u hu
  have := h _ x h1 _ u h2
  rw [Addr.add_lit]
  have e : o + j / k * k + j % k = o + j := by have := Nat.div_add_mod j k; rw [Nat.mul_comm] at this; omega
  rwa [e] at this
theorem flat_length (hk : ∀ x, (enc x).length = k) : ∀ l : List α, (l.flatMap enc).length = l.length * k
  | [] => by simp
  | x :: r => by rw [List.flatMap_cons, List.length_append, hk, flat_length hk r, List.length_cons, Nat.add_mul]; omega
theorem wpList_append_holds {P : Program} {w : World} {ops : Array Oper} {rest : List Oper} {o : Oper} {a : Act} {Q : Exit → Act → World → Prop} (hk : ∀ x, (enc x).length = k) (hk0 : 0 < k) (hone : ∀ x, ∀ u ∈ enc x, u.oneCell' = true) (hgd : o.guard = none) (s x : Operand) (t : TypeId)
    (ho : o.op = .call { callee := .builtin .append, args := #[s, x], argTypes := #[t, t] })
    (base : Nat) (e : TypeId) (i : TypeInfo) (z : Value) (bytes : Nat) (ht : P.underlying t = some (.slice e)) (hi : P.info? e = some i) (hz : i.zero = some z)
    (hsize : i.size = k) (hby : i.bytes = bytes) (hzs : z.cells.size = k)
    (v : Value) (n : Nat) (xs : List Value) (hs : a.eval s = v) (hown : w.ownsRow base e k v n xs)
    (X : Value) (l : List α) (hx : a.eval x = X) (hX : HoldsE enc k w X l)
    (h63 : n + l.length ≤ maxLen) (hbytes : (n + l.length) * bytes ≤ 140737488355328) (hbase : base ≤ w.heap.size)
    (h : ∀ v' w', w'.ownsRow base e k v' (n + l.length) (xs ++ l.flatMap enc) → w.grownBy w' v.ownBlock → wpList P ops Q rest (a.put o.dst v') w') : wpList P ops Q (o :: rest) a w := by
  rcases hX with ⟨rfl, rfl⟩ | ⟨g, of, cap, rfl, hc, hX⟩
  · refine wpList_plain hgd fun K hK => ?_
    have hr := run_append_owned_none (P := P) (w := w) base t o.type e i k ht hi v n xs hown
    unfold Oper.wp execOp
    simp only [ho, resolve, invoke, builtin, Sem.run_bind, Sem.run_pure, Result.andThen_ok, List.map_toArray, List.map_cons, List.map_nil, hs, hx, hr]
    exact hK _ _ (h v w (by simpa using hown) (World.grownBy.refl _ _))
  · exact wpList_append_own _ hgd s x t ho base e i z k bytes ht hi hz hsize hby hzs hk0 v n xs hs hown ⟨g, of, none⟩ l.length cap (l.flatMap enc) hx (flat_length hk l) (holds_add hk hk0 hX) (one_cells hone l) h63 hbytes hbase fun v' w' h2 h3 _ => h v' w' h2 h3
end
/-- The part of a list in memory ahead of a place, and behind it. -/
theorem cells_take {α : Type} {enc : α → List Value} {k : Nat} {w : World} {g o : Nat} {l : List α} {m cap : Nat} (h : ∀ j (x : α), l[j]? = some x → ∀ i u, (enc x)[i]? = some u → w.cell? ⟨g, o + j * k + i, none⟩ = some u) (hm : m ≤ l.length) (hc : l.length ≤ cap) :
    HoldsE enc k w (.slice (some ⟨g, o, none⟩) m cap) (l.take m) :=
  .inr ⟨g, o, cap, by rw [List.length_take, Nat.min_eq_left hm], by rw [List.length_take]; omega, fun j x hx => h j x (by rw [List.getElem?_take] at hx; split at hx; exact hx; cases hx)⟩
theorem cells_drop {α : Type} {enc : α → List Value} {k : Nat} {w : World} {g o : Nat} {l : List α} {m cap : Nat} (h : ∀ j (x : α), l[j]? = some x → ∀ i u, (enc x)[i]? = some u → w.cell? ⟨g, o + j * k + i, none⟩ = some u) (hm : m ≤ l.length) (hc : l.length ≤ cap) :
    HoldsE enc k w (.slice (some ⟨g, o + m * k, none⟩) (l.length - m) (cap - m)) (l.drop m) :=
  .inr ⟨g, o + m * k, cap - m, by rw [List.length_drop], by rw [List.length_drop]; omega, fun j x hx i u hu => by
    have := h (m + j) x (by rw [List.getElem?_drop] at hx; exact hx) i u hu
    rw [Nat.add_mul, ← Nat.add_assoc] at this
    exact this⟩
/-- Where a span goes: behind as many as do not begin behind it. -/
theorem insS_at {x : Sp} : ∀ {l : List Sp} {m : Nat}, m ≤ l.length → (∀ j (y : Sp), j < m → l[j]? = some y → y.f ≤ x.f) → (∀ y : Sp, l[m]? = some y → x.f < y.f) → insS x l = l.take m ++ x :: l.drop m
  | [], m, hm, _, _ => by simp [insS]
  | y :: r, 0, _, _, h2 => by
    have : ¬ y.f ≤ x.f := by have := h2 y rfl; omega
    unfold insS
    rw [List.takeWhile_cons_of_neg (by simpa using this), List.dropWhile_cons_of_neg (by simpa using this)]
    rfl
  | y :: r, m + 1, hm, h1, h2 => by
    have hy : y.f ≤ x.f := h1 0 y (by omega) rfl
    have := insS_at (x := x) (l := r) (m := m) (by simpa using hm) (fun j z hj hz => h1 (j + 1) z (by omega) (by rw [List.getElem?_cons_succ]; exact hz)) (fun z hz => h2 z (by rw [List.getElem?_cons_succ]; exact hz))
    unfold insS at this ⊢
    rw [List.takeWhile_cons_of_pos (by simpa using hy), List.dropWhile_cons_of_pos (by simpa using hy), List.cons_append, this]
    rfl
end Go.Proofs.Ytcilnbkmaoneaaa
