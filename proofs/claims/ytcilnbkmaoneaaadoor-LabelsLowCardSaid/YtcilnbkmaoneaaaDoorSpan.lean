/-
  Layer 7: spans, marked spans, and slices that hold such things, wherever they lie.
-/
import Derived.Test.YtcilnbkmaoneaaaDoorLex
set_option linter.unusedSimpArgs false
set_option linter.unusedVariables false
namespace Go.Proofs.YtcilnbkmaoneaaaDoor
open Go.RowKit Go.PlainAid

/-- A span: from, to, bits. -/
structure Sp where
  f : Int
  t : Int
  b : Int
deriving DecidableEq
instance : Inhabited Sp := ⟨⟨0, 0, 0⟩⟩
def Sp.cells (x : Sp) : List Value := [.int .i64 x.f, .int .i64 x.t, .int .u8 x.b]
def Sp.plain (x : Sp) : List Value := [.int .i64 x.f, .int .i64 x.t, .int .i64 x.b]
/-- A span and its kind: whether it is a sink. -/
structure Mk where
  s : Sp
  k : Bool
def Mk.cells (x : Mk) : List Value := [.int .i64 x.s.f, .int .i64 x.s.t, .int .u8 x.s.b, .bool x.k]
section
variable {α : Type} (enc : α → List Value) (k : Nat)
/-- A slice that holds these, wherever it lies: k cells each. -/
def HoldsE (w : World) (v : Value) (l : List α) : Prop :=
  (v = .slice none 0 0 ∧ l = []) ∨ ∃ g o cap, v = .slice (some ⟨g, o, none⟩) l.length cap ∧ l.length ≤ cap ∧ ∀ j (x : α), l[j]? = some x → ∀ i u, (enc x)[i]? = some u → w.cell? ⟨g, o + j * k + i, none⟩ = some u
variable {enc k}
theorem flat_len (hk : ∀ x, (enc x).length = k) : ∀ l : List α, (l.flatMap enc).length = l.length * k
  | [] => by simp
  | x :: r => by rw [List.flatMap_cons, List.length_append, hk, flat_len hk r, List.length_cons, Nat.add_mul, Nat.one_mul, Nat.add_comm]
theorem flat_at (hk : ∀ x, (enc x).length = k) : ∀ (l : List α) (j : Nat) (x : α) (i : Nat) (u : Value), l[j]? = some x → (enc x)[i]? = some u → (l.flatMap enc)[j * k + i]? = some u
  | y :: r, 0, x, i, u, h, hu => by
    obtain rfl : y = x := by simpa using h
    have hi : i < (enc y).length := (List.getElem?_eq_some_iff.1 hu).1
    rw [List.flatMap_cons, Nat.zero_mul, Nat.zero_add, List.getElem?_append_left hi]
    exact hu
  | y :: r, j + 1, x, i, u, h, hu => by
    have := flat_at hk r j x i u (by simpa using h) hu
    rw [List.flatMap_cons, List.getElem?_append_right (by rw [hk, Nat.add_mul]; omega), hk, show (j + 1) * k + i - k = j * k + i from by rw [Nat.add_mul]; omega]
    exact this
theorem HoldsE.own (hk : ∀ x, (enc x).length = k) {w : World} {B : Nat} {T : TypeId} {v : Value} {l : List α} (h : w.ownsRow B T k v l.length (l.flatMap enc)) : HoldsE enc k w v l := by
  rcases h.2 with ⟨h1, h2⟩ | ⟨g, cap, cur, h1, h2, h3, h4, _⟩
  · exact .inl ⟨h1, List.length_eq_zero_iff.1 h2⟩
  · refine .inr ⟨g, 0, cap, h1, h4, fun j x hx i u hu => ?_⟩
    have := h.cells (g := g) (by rw [h1]; rfl) _ u (flat_at hk l j x i u hx hu)
    rw [Addr.add_lit] at this
    rw [Nat.zero_add] at this ⊢
    exact this
theorem HoldsE.below {w u : World} {v : Value} {l : List α} (h : HoldsE enc k w v l) (hb : Below w.heap.size w u) : HoldsE enc k u v l := by
  rcases h with h | ⟨g, o, cap, e, hc, h⟩
  · exact .inl h
  · exact .inr ⟨g, o, cap, e, hc, fun j x hx i y hy => kc hb (h j x hx i y hy)⟩
theorem HoldsE.form {w : World} {v : Value} {l : List α} (h : HoldsE enc k w v l) : ∃ p c, v = .slice p l.length c := by
  rcases h with ⟨rfl, rfl⟩ | ⟨g, o, cap, rfl, _⟩
  · exact ⟨none, 0, rfl⟩
  · exact ⟨_, cap, rfl⟩
theorem HoldsE.some {w : World} {v : Value} {l : List α} (h : HoldsE enc k w v l) (hl : 0 < l.length) : ∃ g o cap, v = .slice (some ⟨g, o, none⟩) l.length cap ∧ l.length ≤ cap ∧ ∀ j (x : α), l[j]? = some x → ∀ i u, (enc x)[i]? = some u → w.cell? ⟨g, o + j * k + i, none⟩ = some u := by
  rcases h with ⟨_, rfl⟩ | h
  · exact absurd hl (by simp)
  · exact h
theorem HoldsE.nil (w : World) : HoldsE enc k w (.slice none 0 0) ([] : List α) := .inl ⟨rfl, rfl⟩
end
theorem sp_len (x : Sp) : x.cells.length = 3 := rfl
theorem pl_len (x : Sp) : x.plain.length = 3 := rfl
theorem mk_len (x : Mk) : x.cells.length = 4 := rfl
theorem tk_len (x : Tk) : x.cells.length = 5 := rfl
abbrev HoldsS := HoldsE Sp.cells 3
abbrev HoldsD := HoldsE Sp.plain 3
abbrev HoldsM := HoldsE Mk.cells 4
theorem one_cells {α : Type} {enc : α → List Value} (h1 : ∀ x, ∀ u ∈ enc x, u.oneCell' = true) (l : List α) : ∀ u ∈ l.flatMap enc, u.oneCell' = true := by
  intro u hu
  obtain ⟨x, _, hx⟩ := List.mem_flatMap.1 hu
  exact h1 x u hx
theorem sp_one (x : Sp) : ∀ u ∈ x.cells, u.oneCell' = true := by
  intro u hu
  simp only [Sp.cells, List.mem_cons, List.not_mem_nil, or_false] at hu
  rcases hu with rfl | rfl | rfl <;> rfl
theorem pl_one (x : Sp) : ∀ u ∈ x.plain, u.oneCell' = true := by
  intro u hu
  simp only [Sp.plain, List.mem_cons, List.not_mem_nil, or_false] at hu
  rcases hu with rfl | rfl | rfl <;> rfl
theorem mk_one (x : Mk) : ∀ u ∈ x.cells, u.oneCell' = true := by
  intro u hu
  simp only [Mk.cells, List.mem_cons, List.not_mem_nil, or_false] at hu
  rcases hu with rfl | rfl | rfl | rfl <;> rfl
/-- The cells of what stands at a place. -/
theorem get3 {w : World} {g o k : Nat} {l : List Sp} {x : Sp} (h : ∀ j (x : Sp), l[j]? = some x → ∀ i u, x.cells[i]? = some u → w.cell? ⟨g, o + j * 3 + i, none⟩ = some u) (hx : l[k]? = some x) :
    w.cell? ⟨g, o + k * 3, none⟩ = some (.int .i64 x.f) ∧ w.cell? ⟨g, o + k * 3 + 1, none⟩ = some (.int .i64 x.t) ∧ w.cell? ⟨g, o + k * 3 + 2, none⟩ = some (.int .u8 x.b) :=
  ⟨h k x hx 0 _ rfl, h k x hx 1 _ rfl, h k x hx 2 _ rfl⟩
theorem get3d {w : World} {g o k : Nat} {l : List Sp} {x : Sp} (h : ∀ j (x : Sp), l[j]? = some x → ∀ i u, x.plain[i]? = some u → w.cell? ⟨g, o + j * 3 + i, none⟩ = some u) (hx : l[k]? = some x) :
    w.cell? ⟨g, o + k * 3, none⟩ = some (.int .i64 x.f) ∧ w.cell? ⟨g, o + k * 3 + 1, none⟩ = some (.int .i64 x.t) ∧ w.cell? ⟨g, o + k * 3 + 2, none⟩ = some (.int .i64 x.b) :=
  ⟨h k x hx 0 _ rfl, h k x hx 1 _ rfl, h k x hx 2 _ rfl⟩
theorem get4 {w : World} {g o k : Nat} {l : List Mk} {x : Mk} (h : ∀ j (x : Mk), l[j]? = some x → ∀ i u, x.cells[i]? = some u → w.cell? ⟨g, o + j * 4 + i, none⟩ = some u) (hx : l[k]? = some x) :
    w.cell? ⟨g, o + k * 4, none⟩ = some (.int .i64 x.s.f) ∧ w.cell? ⟨g, o + k * 4 + 1, none⟩ = some (.int .i64 x.s.t) ∧ w.cell? ⟨g, o + k * 4 + 2, none⟩ = some (.int .u8 x.s.b) ∧ w.cell? ⟨g, o + k * 4 + 3, none⟩ = some (.bool x.k) :=
  ⟨h k x hx 0 _ rfl, h k x hx 1 _ rfl, h k x hx 2 _ rfl, h k x hx 3 _ rfl⟩
end Go.Proofs.YtcilnbkmaoneaaaDoor
