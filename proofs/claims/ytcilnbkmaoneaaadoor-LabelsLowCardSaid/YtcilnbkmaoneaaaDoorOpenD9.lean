/-
  How loads, and bytes that are other ones, open.
-/
import Derived.Test.YtcilnbkmaoneaaaDoorLoads9
import Derived.Test.YtcilnbkmaoneaaaDoorOpenP9
import Derived.Test.YtcilnbkmaoneaaaDoorOpen8
set_option linter.unusedSimpArgs false
set_option linter.unusedVariables false
set_option maxRecDepth 100000
namespace Go.Proofs.YtcilnbkmaoneaaaDoor
open Go.ChangeShapes Go.WideShapes Go.ChangeAt Go.RowKit Go.Joins

def tnE (x : Tn) : List Value := [.int .i64 x.a, .int .u8 x.b]
def HoldsTn (w : World) (v : Value) (l : List Tn) : Prop := HoldsW tnE 2 w v l
section
variable {H : Type} {enc : TypeId × Value → H} {w : World} {base : Nat} {spare : Nat → Bool} {held : Bool} {r : Reach} {b0 : Nat} {v : Value} {d : DataW H} {p : List MemPlace}
def ldE (x : Ld × Value) : List Value := [.int .i64 x.1.a, x.2]
def ldG (w : World) (x : Ld × Value) : Prop := HoldsB w x.2 x.1.l ∧ x.1.l.length ≤ 9223372036854775807 ∧ (∀ y ∈ x.1.l, 0 ≤ y ∧ y ≤ 255) ∧ (0 < x.1.l.length → ∀ g, x.2.ownBlock = some g → g < w.heap.size)
instance : Inhabited (Ld × Value) := ⟨⟨⟨0, []⟩, .int .i64 0⟩⟩
theorem trod_ld {fuel : Nat} {cs : List Value} {spare : Nat → Bool} {y : DataW H × List MemPlace} (h : DataW.trod enc Tryd.prog w 0 spare held fuel 62 cs = some y) : ∃ x : Ld × Value, cs = ldE x ∧ ldG w x := by
  obtain ⟨xs, m, _, _, hcl, hl, hf⟩ := DataW.trod_struct Tryd.underlying62 h
  obtain ⟨c0, c1, rfl⟩ := list2 (hcl.trans (by kernel_rfl))
  obtain ⟨y0, y1, rfl⟩ := list2 hl
  obtain ⟨a, e0, _⟩ := DataW.trod_int Tryd.underlying3 (show DataW.trod enc Tryd.prog w 0 spare held m 3 [c0] = some y0 from hf 0 _ rfl)
  obtain ⟨l, h1, h0, h2, h3⟩ := trod_bytes (show DataW.trod enc Tryd.prog w 0 spare held m 54 [c1] = some y1 from hf 1 _ rfl)
  simp only [List.cons.injEq, and_true] at e0
  subst e0
  exact ⟨⟨⟨a, l⟩, c1⟩, rfl, h1, h2, h0, h3⟩
theorem under_lds : Tryd.prog.underlying 25 = some (.slice 62) := by kernel_rfl
theorem open_Ls (hv : Value.okWide Tryd.prog w r b0 25 v) (h : DataW.Trod enc Tryd.prog w 0 spare held 25 v d p) :
    ∃ l : List Ld, HoldsLd w.heap.size w v l ∧ l.length ≤ 9223372036854775807 ∧ (∀ x ∈ l, x.l.length ≤ 9223372036854775807) ∧ ∀ x ∈ l, ∀ y ∈ x.l, 0 ≤ y ∧ y ≤ 255 := by
  obtain ⟨fuel, hf⟩ := h
  rw [slice_cells under_lds hv] at hf
  obtain ⟨l, h1, h2, h3, h4⟩ := open_slice ldE 2 (ldG w) under_lds (by kernel_rfl) (by omega) (fun n cs y h => trod_ld h) hf
  refine ⟨l.map (·.1), ?_, by simpa using h3, fun x hx => ?_, fun x hx => ?_⟩
  · rcases h1 with ⟨h5, rfl⟩ | ⟨g, o, cap, rfl, hcap, hc⟩
    · exact .inl ⟨h5, rfl⟩
    · by_cases h0 : l.length = 0
      · exact .inl ⟨⟨_, _, by rw [h0]⟩, by simpa using List.length_eq_zero_iff.1 h0⟩
      refine .inr ⟨g, o, cap, by simp, by simpa using hcap, h4 (by omega) g rfl, fun j x hx => ?_⟩
      rw [List.getElem?_map] at hx
      obtain ⟨⟨x', lv⟩, hx2, rfl⟩ := Option.map_eq_some_iff.1 hx
      have hg := h2 _ (List.mem_of_getElem? hx2)
      exact ⟨lv, hc j _ hx2 0 _ rfl, hc j _ hx2 1 _ rfl, hg.1, hg.2.2.2⟩
  · obtain ⟨y, hy, rfl⟩ := List.mem_map.1 hx
    exact (h2 y hy).2.1
  · obtain ⟨y, hy, rfl⟩ := List.mem_map.1 hx
    exact (h2 y hy).2.2.1
theorem trod_tn {fuel : Nat} {cs : List Value} {spare : Nat → Bool} {y : DataW H × List MemPlace} (h : DataW.trod enc Tryd.prog w 0 spare held fuel 52 cs = some y) : ∃ x : Tn, cs = tnE x ∧ By x.b := by
  obtain ⟨xs, m, _, _, hcl, hl, hf⟩ := DataW.trod_struct Tryd.underlying52 h
  obtain ⟨c0, c1, rfl⟩ := list2 (hcl.trans (by kernel_rfl))
  obtain ⟨y0, y1, rfl⟩ := list2 hl
  obtain ⟨a, e0, _⟩ := DataW.trod_int Tryd.underlying3 (show DataW.trod enc Tryd.prog w 0 spare held m 3 [c0] = some y0 from hf 0 _ rfl)
  obtain ⟨b, e1, hb⟩ := trod_byte (show DataW.trod enc Tryd.prog w 0 spare held m 5 [c1] = some y1 from hf 1 _ rfl)
  unfold byE at e1
  simp only [List.cons.injEq, and_true] at e0 e1
  subst e0; subst e1
  exact ⟨⟨a, b⟩, rfl, hb⟩
theorem under_tns : Tryd.prog.underlying 50 = some (.slice 52) := by kernel_rfl
theorem open_Ts (hv : Value.okWide Tryd.prog w r b0 50 v) (h : DataW.Trod enc Tryd.prog w 0 spare held 50 v d p) :
    ∃ l : List Tn, HoldsTn w v l ∧ (∀ x ∈ l, By x.b) ∧ l.length ≤ 9223372036854775807 ∧ (0 < l.length → ∀ g, v.ownBlock = some g → g < w.heap.size) := by
  obtain ⟨fuel, hf⟩ := h
  rw [slice_cells under_tns hv] at hf
  exact open_slice tnE 2 (fun x => By x.b) under_tns (by kernel_rfl) (by omega) (fun n cs y h => trod_tn h) hf
end
end Go.Proofs.YtcilnbkmaoneaaaDoor
