/-
  The kind of a name in a mode: the document's answer.
-/
import Derived.Test.YtcplegelppfdeaaDoorIn
set_option linter.unusedSimpArgs false
set_option linter.unusedVariables false
namespace Go.Proofs.YtcplegelppfdeaaDoor
open Go.RowKit Go.PlainAid

/-- The names that read; that write; that turn; that jump. -/
abbrev nR : ByteArray := ⟨#[65, 68, 67, 65, 78, 68, 66, 73, 84, 67, 77, 80, 67, 80, 88, 67, 80, 89, 69, 79, 82, 76, 68, 65, 76, 68, 88, 76, 68, 89, 79, 82, 65, 83, 66, 67]⟩
abbrev nW : ByteArray := ⟨#[83, 84, 65, 83, 84, 88, 83, 84, 89]⟩
abbrev nT : ByteArray := ⟨#[65, 83, 76, 68, 69, 67, 73, 78, 67, 76, 83, 82, 82, 79, 76, 82, 79, 82]⟩
abbrev nJ : ByteArray := ⟨#[66, 82, 75, 74, 77, 80, 74, 83, 82, 80, 72, 65, 80, 72, 80, 80, 76, 65, 80, 76, 80, 82, 84, 73, 82, 84, 83]⟩
def inR (s : ByteArray) : Bool := inD s nR
def inW (s : ByteArray) : Bool := inD s nW
def inT (s : ByteArray) : Bool := inD s nT
def inJ (s : ByteArray) : Bool := inD s nJ
def kindD (s : ByteArray) (m : Int) : Int := if inR s then 1 else if inW s then 2 else if inT s && m != 1 then 3 else if inJ s || m == 12 then 4 else 0

set_option maxRecDepth 100000 in
set_option maxHeartbeats 2000000 in
theorem kind_c (s : ByteArray) (m : Int) (w : World) : Calls Tryd.prog 22 #[.string s, .int .i64 m] w fun e w' => e = .returned (.int .i64 (kindD s m)) ∧ w = w' := by
  have HR := Lib.hid (fun w => in_c s nR (by decide) w)
  have HW := Lib.hid (fun w => in_c s nW (by decide) w)
  have HT := Lib.hid (fun w => in_c s nT (by decide) w)
  have HJ := Lib.hid (fun w => in_c s nJ (by decide) w)
  have hk : kindD s m = if inD s nR then 1 else if inD s nW then 2 else if inD s nT && m != 1 then 3 else if inD s nJ || m == 12 then 4 else 0 := rfl
  generalize kindD s m = K at *
  generalize inD s nR = A at *
  generalize inD s nW = B at *
  generalize inD s nT = C at *
  generalize inD s nJ = D at *
  obtain ⟨e1, he1⟩ : ∃ e, (m == 1) = e := ⟨_, rfl⟩
  obtain ⟨e2, he2⟩ : ∃ e, (m == 12) = e := ⟨_, rfl⟩
  have he1' : (m != 1) = !e1 := by unfold bne; rw [he1]
  rw [he1', he2] at hk
  have HK := Lib.hid hk
  clear hk
  cases A <;> cases B <;> cases C <;> cases D <;> cases e1 <;> cases e2
  all_goals
    go_enter Tryd.func22, Tryd.ntmps22
    go_wp2_with (go_at_call 30; first
      | ((with_reducible refine (HR.out _).mono ?_); rintro _ _ ⟨rfl, rfl⟩)
      | ((with_reducible refine (HW.out _).mono ?_); rintro _ _ ⟨rfl, rfl⟩)
      | ((with_reducible refine (HT.out _).mono ?_); rintro _ _ ⟨rfl, rfl⟩)
      | ((with_reducible refine (HJ.out _).mono ?_); rintro _ _ ⟨rfl, rfl⟩))
    go_ret
    exact ⟨ret_i64T (by rw [HK.out]; rfl), rfl⟩

end Go.Proofs.YtcplegelppfdeaaDoor
