/-
  The law's example.
-/
import Derived.Test.YtcnejgilmciljaaGreatDoorOutk11
import Derived.Test.YtcnejgilmciljaaGreatDoorClonep11
set_option linter.unusedSimpArgs false
set_option linter.unusedVariables false
namespace Go.Proofs.YtcnejgilmciljaaGreatDoor
open Go.RowKit Go.PlainAid

section
variable {F G F' G' : Nat → Prop} {w u : World}
theorem Mv.cell (h : Mv F G F' G' w u) {b o : Nat} {x : Value} (hc : w.cell? ⟨b, o, none⟩ = some x) (hn : ¬ F b) : u.cell? ⟨b, o, none⟩ = some x := h.fr.cell hc hn
theorem Mv.froz (h : Mv F G F' G' w u) {b o : Nat} (hb : b < w.heap.size) (hc : w.frozen? ⟨b, o, none⟩ = false) (hn : ¬ F b) : u.frozen? ⟨b, o, none⟩ = false := h.fr.frozen hb hc hn
theorem Mv.off (h : Mv F G F' G' w u) {b : Nat} (hb : b < w.heap.size) (hn : ¬ F b) : ¬ F' b := fun hf => (h.f b hf).elim hn (fun h1 => by omega)
end
theorem holds_one {W : World} (x : Int) (T : TypeId) : HoldsW bE 1 (W.alloc (.cells #[.int .u8 x] T)) (.slice (some ⟨W.heap.size, 0, none⟩) 1 1) [x] := by
  refine .inr ⟨W.heap.size, 0, 1, rfl, Nat.le_refl _, fun j z hz i u hu => ?_⟩
  have := one_at (W := W) T (.int .u8 x)
  match j, hz with
  | 0, hz =>
    obtain rfl : x = z := by simpa using hz
    have := this i u hu
    rwa [Addr.add_lit] at this
  | j + 1, hz => simp at hz
end Go.Proofs.YtcnejgilmciljaaGreatDoor
