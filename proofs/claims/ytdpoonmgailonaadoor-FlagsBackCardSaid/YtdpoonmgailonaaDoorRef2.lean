/-
  What the texts on layer 1's answer stand on, where its Same and Spread are not called: a bit of a byte in which one is put.
-/
import Derived.Test.YtdpoonmgailonaaDoorRef
namespace Go.Proofs.YtdpoonmgailonaaDoor
theorem setB_bit (x : BitVec 8) (i : Nat) (v : Bool) (j : Nat) (hi : i < 8) (hj : j < 8) : (setB x i v).getLsbD j = if j = i then v else x.getLsbD j := by
  have : ∀ i : Fin 8, ∀ j : Fin 8, ∀ v : Bool, ∀ x : BitVec 8, (setB x i.val v).getLsbD j.val = if j.val = i.val then v else x.getLsbD j.val := by decide +kernel
  exact this ⟨i, hi⟩ ⟨j, hj⟩ v x
end Go.Proofs.YtdpoonmgailonaaDoor
