/-
  How many cycles a name takes at least, in a mode: the document's answer.
-/
import Derived.Test.YtnigcmicimdphaaDoorKind
set_option linter.unusedSimpArgs false
set_option linter.unusedVariables false
namespace Go.Proofs.YtnigcmicimdphaaDoor
open Go.RowKit Go.PlainAid

def tR (m : Int) : Int := [0, 0, 2, 3, 4, 4, 4, 4, 4, 6, 5, 0, 0].getD m.toNat 0
theorem ixR (m : Int) (h0 : 0 ≤ m) (h1 : m ≤ 12) (W : World) : (Instr.index 46 (.agg #[.int .i64 0, .int .i64 0, .int .i64 2, .int .i64 3, .int .i64 4, .int .i64 4, .int .i64 4, .int .i64 4, .int .i64 4, .int .i64 6, .int .i64 5, .int .i64 0, .int .i64 0]) (.int .i64 m)).run Tryd.prog W = .ok (.int .i64 (tR m)) W := by
  rcases modes m with h | h
  · rcases h with rfl | rfl | rfl | rfl | rfl | rfl | rfl | rfl | rfl | rfl | rfl | rfl | rfl <;> kernel_rfl
  · omega
def tW (m : Int) : Int := [0, 0, 0, 3, 4, 4, 4, 5, 5, 6, 6, 0, 0].getD m.toNat 0
theorem ixW (m : Int) (h0 : 0 ≤ m) (h1 : m ≤ 12) (W : World) : (Instr.index 46 (.agg #[.int .i64 0, .int .i64 0, .int .i64 0, .int .i64 3, .int .i64 4, .int .i64 4, .int .i64 4, .int .i64 5, .int .i64 5, .int .i64 6, .int .i64 6, .int .i64 0, .int .i64 0]) (.int .i64 m)).run Tryd.prog W = .ok (.int .i64 (tW m)) W := by
  rcases modes m with h | h
  · rcases h with rfl | rfl | rfl | rfl | rfl | rfl | rfl | rfl | rfl | rfl | rfl | rfl | rfl <;> kernel_rfl
  · omega
def tT (m : Int) : Int := [0, 0, 0, 5, 6, 0, 6, 7, 0, 0, 0, 0, 0].getD m.toNat 0
theorem ixT (m : Int) (h0 : 0 ≤ m) (h1 : m ≤ 12) (W : World) : (Instr.index 46 (.agg #[.int .i64 0, .int .i64 0, .int .i64 0, .int .i64 5, .int .i64 6, .int .i64 0, .int .i64 6, .int .i64 7, .int .i64 0, .int .i64 0, .int .i64 0, .int .i64 0, .int .i64 0]) (.int .i64 m)).run Tryd.prog W = .ok (.int .i64 (tT m)) W := by
  rcases modes m with h | h
  · rcases h with rfl | rfl | rfl | rfl | rfl | rfl | rfl | rfl | rfl | rfl | rfl | rfl | rfl <;> kernel_rfl
  · omega
theorem kindD_five (s : ByteArray) (m : Int) : kindD s m = 0 ∨ kindD s m = 1 ∨ kindD s m = 2 ∨ kindD s m = 3 ∨ kindD s m = 4 := by
  unfold kindD
  cases inR s <;> cases inW s <;> cases inT s <;> cases inJ s <;> cases (m != 1) <;> cases (m == 12) <;> simp
/-- The cycles of what jumps. -/
def cycJ (s : ByteArray) (m : Int) : Int :=
  if m == 12 then 2 else if m == 11 then 5 else if s.toList == [74, 77, 80] then 3 else if s.toList == [80, 72, 65] then 3 else if s.toList == [80, 72, 80] then 3
  else if s.toList == [80, 76, 65] then 4 else if s.toList == [80, 76, 80] then 4 else if s.toList == [66, 82, 75] then 7 else 6
def cycD (s : ByteArray) (m : Int) : Int :=
  if kindD s m = 0 then 2 else if kindD s m = 1 then tR m else if kindD s m = 2 then tW m else if kindD s m = 3 then tT m else cycJ s m
theorem ways8 : ∀ a b c d e f g h : Bool, a = true ∨ (a = false ∧ b = true) ∨ (a = false ∧ b = false ∧ c = true) ∨ (a = false ∧ b = false ∧ c = false ∧ d = true) ∨ (a = false ∧ b = false ∧ c = false ∧ d = false ∧ e = true) ∨
    (a = false ∧ b = false ∧ c = false ∧ d = false ∧ e = false ∧ f = true) ∨ (a = false ∧ b = false ∧ c = false ∧ d = false ∧ e = false ∧ f = false ∧ g = true) ∨
    (a = false ∧ b = false ∧ c = false ∧ d = false ∧ e = false ∧ f = false ∧ g = false ∧ h = true) ∨ (a = false ∧ b = false ∧ c = false ∧ d = false ∧ e = false ∧ f = false ∧ g = false ∧ h = false) := by
  intro a b c d e f g h
  cases a <;> cases b <;> cases c <;> cases d <;> cases e <;> cases f <;> cases g <;> cases h <;> simp

set_option maxRecDepth 100000 in
set_option maxHeartbeats 4000000 in
theorem cycles_c (s : ByteArray) (m : Int) (h0 : 0 ≤ m) (h1 : m ≤ 12) (w : World) : Calls Tryd.prog 12 #[.string s, .int .i64 m] w fun e w' => e = .returned (.int .i64 (cycD s m)) ∧ w = w' := by
  have xR := ixR m h0 h1
  have xW := ixW m h0 h1
  have xT := ixT m h0 h1
  have HK := Lib.hid (fun w => kind_c s m w)
  have HC := Lib.hid (show cycD s m = if kindD s m = 0 then 2 else if kindD s m = 1 then tR m else if kindD s m = 2 then tW m else if kindD s m = 3 then tT m else cycJ s m from rfl)
  have HF := kindD_five s m
  generalize kindD s m = K at *
  rcases HF with rfl | rfl | rfl | rfl | rfl
  · go_enter Tryd.func12, Tryd.ntmps12
    go_wp2_with (go_at_call 11; (with_reducible refine (HK.out _).mono ?_); rintro _ _ ⟨rfl, rfl⟩)
    go_ret
    exact ⟨ret_i64 (by rw [HC.out]; rfl), rfl⟩
  · go_enter Tryd.func12, Tryd.ntmps12
    go_wp2_with (go_at_call 11; (with_reducible refine (HK.out _).mono ?_); rintro _ _ ⟨rfl, rfl⟩)
    go_ret
    exact ⟨ret_i64 (by rw [HC.out]; rfl), rfl⟩
  · go_enter Tryd.func12, Tryd.ntmps12
    go_wp2_with (go_at_call 11; (with_reducible refine (HK.out _).mono ?_); rintro _ _ ⟨rfl, rfl⟩)
    go_ret
    exact ⟨ret_i64 (by rw [HC.out]; rfl), rfl⟩
  · go_enter Tryd.func12, Tryd.ntmps12
    go_wp2_with (go_at_call 11; (with_reducible refine (HK.out _).mono ?_); rintro _ _ ⟨rfl, rfl⟩)
    go_ret
    exact ⟨ret_i64 (by rw [HC.out]; rfl), rfl⟩
  · have HJ := Lib.hid (show cycJ s m = if m == 12 then 2 else if m == 11 then 5 else if s.toList == [74, 77, 80] then 3 else if s.toList == [80, 72, 65] then 3 else if s.toList == [80, 72, 80] then 3
      else if s.toList == [80, 76, 65] then 4 else if s.toList == [80, 76, 80] then 4 else if s.toList == [66, 82, 75] then 7 else 6 from rfl)
    rcases ways8 (m == 12) (m == 11) (s.toList == [74, 77, 80]) (s.toList == [80, 72, 65]) (s.toList == [80, 72, 80]) (s.toList == [80, 76, 65]) (s.toList == [80, 76, 80]) (s.toList == [66, 82, 75]) with
      b1 | ⟨b1, b2⟩ | ⟨b1, b2, b3⟩ | ⟨b1, b2, b3, b4⟩ | ⟨b1, b2, b3, b4, b5⟩ | ⟨b1, b2, b3, b4, b5, b6⟩ | ⟨b1, b2, b3, b4, b5, b6, b7⟩ | ⟨b1, b2, b3, b4, b5, b6, b7, b8⟩ | ⟨b1, b2, b3, b4, b5, b6, b7, b8⟩
    all_goals
      go_enter Tryd.func12, Tryd.ntmps12
      go_wp2_with (go_at_call 11; (with_reducible refine (HK.out _).mono ?_); rintro _ _ ⟨rfl, rfl⟩)
      go_ret
      exact ⟨ret_i64 (by rw [HC.out]; show _ = cycJ s m; rw [HJ.out]; simp [*]), rfl⟩
end Go.Proofs.YtnigcmicimdphaaDoor
