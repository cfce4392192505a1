/-
  The bytes of a bus's memory, as memory's Read and Write tell them.
-/
import Derived.Test.YtcnejgilmciljaaDoorBs13
import Derived.Test.YtcnejgilmciljaaDoorLabelp8
set_option linter.unusedSimpArgs false
set_option linter.unusedVariables false
namespace Go.Proofs.YtcnejgilmciljaaDoor
open Go.RowKit Go.PlainAid

theorem prM_memV (M : Int → Int × Int) (a : Int) (h0 : 0 ≤ a) (h1 : a ≤ 65535) (hd : devB a = false) : prM M a = ⟨(memV M a).1, (memV M a).2, 0⟩ := by
  unfold prM memV realB
  rcases kindI_cases a a with ⟨k, h, -⟩ | ⟨k, h, -⟩ | ⟨k, h, -⟩ | ⟨k, h, -⟩ | ⟨k, n1, n2, n3, n4⟩
  · rw [k, if_neg (by decide), if_neg (by decide), if_neg (by decide), if_pos (by rw [h]; rfl)]
  · rw [h] at hd; cases hd
  · have e1 : ramB a = false := by unfold ramB; simp; omega
    have e2 : romB a = false := by unfold romB; simp; omega
    rw [k, if_neg (by decide), if_neg (by decide), if_pos rfl, e1, e2]
    rfl
  · rw [k, if_neg (by decide), if_neg (by decide), if_neg (by decide), if_pos (by rw [h]; simp)]
  · exfalso
    have e1 : ¬ ramB a = true := fun h => n1 ⟨h, h⟩
    have e4 : ¬ romB a = true := fun h => n4 ⟨h, h⟩
    unfold ramB at e1
    unfold romB at e4
    unfold devB at hd
    simp at e1 e4 hd
    omega
theorem kindI_bad {a : Int} (h : a < 0 ∨ 65535 < a) : kindI a a = 0 := by
  rcases kindI_cases a a with ⟨k, h1, -⟩ | ⟨k, h1, -⟩ | ⟨k, h1, -⟩ | ⟨k, h1, -⟩ | ⟨k, n1, n2, n3, n4⟩
  · unfold ramB at h1; simp at h1; omega
  · unfold devB at h1; simp at h1; omega
  · omega
  · unfold romB at h1; simp at h1; omega
  · exact k
theorem prM_bad (M : Int → Int × Int) (a : Int) (h : a < 0 ∨ 65535 < a) : prM M a = ⟨0, 0, 10⟩ := by
  unfold prM
  rw [if_pos (kindI_bad h)]
theorem writeM_bad (M : Int → Int × Int) (a v t : Int) (h : a < 0 ∨ 65535 < a) : writeM M a v t = (10, M) := by
  unfold writeM
  rw [if_pos (kindI_bad h)]
theorem writeM_ok (M : Int → Int × Int) (a v t : Int) (h0 : 0 ≤ a) (h1 : a ≤ 65535) (hd : devB a = false) : writeM M a v t = (0, wrM M a v t) := by
  unfold writeM wrM
  rcases kindI_cases a a with ⟨k, h, -⟩ | ⟨k, h, -⟩ | ⟨k, h, -⟩ | ⟨k, h, -⟩ | ⟨k, n1, n2, n3, n4⟩
  · rw [k, if_neg (by decide), if_neg (by decide), if_pos rfl, if_pos h]
  · rw [h] at hd; cases hd
  · have e1 : ¬ ramB a = true := by unfold ramB; simp; omega
    rw [k, if_neg (by decide), if_neg (by decide), if_neg (by decide), if_neg e1]
  · have e1 : ¬ ramB a = true := by unfold romB at h; unfold ramB; simp at h ⊢; omega
    rw [k, if_neg (by decide), if_neg (by decide), if_neg (by decide), if_neg e1]
  · exfalso
    have e1 : ¬ ramB a = true := fun h => n1 ⟨h, h⟩
    have e4 : ¬ romB a = true := fun h => n4 ⟨h, h⟩
    unfold ramB at e1
    unfold romB at e4
    unfold devB at hd
    simp at e1 e4 hd
    omega
end Go.Proofs.YtcnejgilmciljaaDoor
