/-
  A memory whose secret bits a policy laid has as many addresses with secret bits as the policy.
-/
import Derived.Test.YtcilnbkmaoneaaaDoorRise9
import Derived.Test.YtcilnbkmaoneaaaDoorSecret8
set_option linter.unusedSimpArgs false
set_option linter.unusedVariables false
namespace Go.Proofs.YtcilnbkmaoneaaaDoor
open Go.RowKit Go.PlainAid

theorem up_same {M : Int → Int × Int} {S : Int → Int} (h : ∀ k : Nat, k < 65536 → (M (k : Int)).2 = S (k : Int)) : ∀ k : Nat, k ≤ 65536 → (upS M k).length = (upB S k).length
  | 0, _ => rfl
  | k + 1, hk => by
    have ih := up_same h k (by omega)
    by_cases e : (M (k : Int)).2 = 0
    · rw [upS_no M k e, upB_no S k (by rw [← h k (by omega)]; exact e), ih]
    · rw [upS_yes M k ⟨by omega, e⟩, upB_yes S k ⟨by omega, by rw [← h k (by omega)]; exact e⟩, List.length_append, List.length_append, ih]
      rfl
end Go.Proofs.YtcilnbkmaoneaaaDoor
