/-
  Layer 14: the document's Program: which text an opcode's steps have.
-/
import Derived.Test.YtcplegelppfdeaaDoorSteps14
import Derived.Test.YtcplegelppfdeaaDoorFind
import Derived.Test.YtcplegelppfdeaaDoorKind
import Derived.Test.YtcplegelppfdeaaDoorTab
set_option linter.unusedSimpArgs false
set_option linter.unusedVariables false
namespace Go.Proofs.YtcplegelppfdeaaDoor
open Go.RowKit Go.PlainAid

/-- What one of the kind Jumps does. -/
def jpT (nm : List UInt8) (m : Int) : List UInt8 :=
  if (m == 12) = true then [79, 102, 102, 115, 101, 116, 32, 84, 97, 107, 101, 32, 67, 114, 111, 115, 115] else if (m == 11) = true then [76, 111, 119, 32, 72, 105, 103, 104, 32, 70, 97, 114, 76, 111, 119, 32, 70, 97, 114, 72, 105, 103, 104]
  else if (nm == [74, 77, 80]) = true then [76, 111, 119, 32, 74, 117, 109, 112]
  else if (nm == [74, 83, 82]) = true then [76, 111, 119, 32, 80, 101, 101, 107, 32, 80, 117, 115, 104, 72, 105, 103, 104, 32, 80, 117, 115, 104, 76, 111, 119, 32, 74, 117, 109, 112]
  else if (nm == [82, 84, 83]) = true then [78, 101, 120, 116, 32, 80, 101, 101, 107, 32, 80, 117, 108, 108, 76, 111, 119, 32, 80, 117, 108, 108, 72, 105, 103, 104, 32, 83, 107, 105, 112]
  else if (nm == [82, 84, 73]) = true then [78, 101, 120, 116, 32, 80, 101, 101, 107, 32, 80, 117, 108, 108, 80, 32, 80, 117, 108, 108, 76, 111, 119, 32, 80, 117, 108, 108, 72, 105, 103, 104]
  else if (nm == [80, 72, 65]) = true then [78, 101, 120, 116, 32, 80, 117, 115, 104, 65]
  else if (nm == [80, 72, 80]) = true then [78, 101, 120, 116, 32, 80, 117, 115, 104, 80]
  else if (nm == [80, 76, 65]) = true then [78, 101, 120, 116, 32, 80, 101, 101, 107, 32, 80, 117, 108, 108, 65]
  else if (nm == [80, 76, 80]) = true then [78, 101, 120, 116, 32, 80, 101, 101, 107, 32, 80, 117, 108, 108, 80]
  else [83, 107, 105, 112, 32, 80, 117, 115, 104, 72, 105, 103, 104, 32, 80, 117, 115, 104, 76, 111, 119, 32, 80, 117, 115, 104, 80, 32, 86, 101, 99, 76, 111, 119, 32, 86, 101, 99, 72, 105, 103, 104]
/-- How a mode finds an address. -/
def adT (m : Int) : List UInt8 :=
  if (m == 3) = true then [76, 111, 119]
  else if ((m == 4) = true ∨ (m == 5) = true) then [76, 111, 119, 32, 73, 110, 100, 101, 120]
  else if (m == 6) = true then [76, 111, 119, 32, 72, 105, 103, 104]
  else if ((m == 7) = true ∨ (m == 8) = true) then [76, 111, 119, 32, 72, 105, 103, 104, 32, 78, 101, 97, 114]
  else if (m == 9) = true then [76, 111, 119, 32, 73, 110, 100, 101, 120, 32, 80, 116, 114, 76, 111, 119, 32, 80, 116, 114, 72, 105, 103, 104]
  else if (m == 10) = true then [76, 111, 119, 32, 80, 116, 114, 76, 111, 119, 32, 80, 116, 114, 72, 105, 103, 104, 32, 78, 101, 97, 114]
  else []
theorem ite_len {c : Prop} [Decidable c] {a b : List UInt8} {n : Nat} (ha : a.length ≤ n) (hb : b.length ≤ n) : (if c then a else b).length ≤ n := by split <;> assumption
theorem jpT_len (nm : List UInt8) (m : Int) : (jpT nm m).length ≤ 60 := by
  unfold jpT
  repeat (refine ite_len (by decide) ?_)
  decide
theorem adT_len (m : Int) : (adT m).length ≤ 40 := by
  unfold adT
  repeat (refine ite_len (by decide) ?_)
  decide
set_option maxRecDepth 100000 in
set_option maxHeartbeats 4000000 in
theorem jump14_c (S : ByteArray) (m : Int) (w : World) : Calls Tryd.prog 24 #[.string S, .int .i64 m] w fun e u => e = .returned (.string (txB (jpT S.toList m))) ∧ Below w.heap.size w u := by
  go_enter Tryd.func24, Tryd.ntmps24
  go_wp2
  all_goals
    go_ret
    exact ⟨by simp [jpT, *], by go_grown⟩
set_option maxRecDepth 100000 in
set_option maxHeartbeats 4000000 in
theorem addr14_c (m : Int) (w : World) : Calls Tryd.prog 23 #[.int .i64 m] w fun e u => e = .returned (.string (txB (adT m))) ∧ Below w.heap.size w u := by
  go_enter Tryd.func23, Tryd.ntmps23
  go_wp2
  all_goals
    go_ret
    exact ⟨by simp [adT, *], by go_grown⟩
/-- Which text an opcode's steps have, by its name, mode and kind. -/
def txP (nm : List UInt8) (m k : Int) : List UInt8 :=
  if (k == 0) = true then [78, 101, 120, 116] else if (k == 1) = true then (if (m == 2) = true then [86, 97, 108, 117, 101] else adT m ++ [32, 71, 101, 116]) else if (k == 2) = true then adT m ++ [32, 80, 117, 116] else if (k == 3) = true then adT m ++ [32, 79, 108, 100, 32, 66, 97, 99, 107, 32, 78, 101, 119] else jpT nm m
set_option maxRecDepth 100000 in
set_option maxHeartbeats 8000000 in
theorem prog14_c (b : Int) (r : Nat) (hr : r < 56) (hb : findR b = r) (w : World) : Calls Tryd.prog 12 #[.int .i64 b] w (StepsEnd (stepsL (txP (nameD r).toList (findM b) (kindD (nameD r) (findM b)))) w) := by
  have HF := Lib.hid (fun W => ofind_c b W)
  rw [hb] at HF
  have HN := Lib.hid (fun W => name_c r hr W)
  have HK := Lib.hid (fun W => kind_c (nameD r) (findM b) W)
  have HA := Lib.hid (fun W => addr14_c (findM b) W)
  have HJ := Lib.hid (fun W => jump14_c (nameD r) (findM b) W)
  have hal := adT_len (findM b)
  have hjl := jpT_len (nameD r).toList (findM b)
  unfold txP
  generalize findM b = M at *
  generalize kindD (nameD r) M = K at *
  have HS := Lib.hid steps14_c
  generalize adT M = AD at *
  generalize jpT (nameD r).toList M = JD at *
  generalize nameD r = S at *
  obtain ⟨AB, hAB⟩ : ∃ x, txB AD = x := ⟨_, rfl⟩
  obtain ⟨JB, hJB⟩ : ∃ x, txB JD = x := ⟨_, rfl⟩
  have hAz : AB.size ≤ 40 := by rw [← hAB, txB_size]; exact hal
  rw [hAB] at HA
  rw [hJB] at HJ
  have HG1 := Lib.hid (fun W => show Calls Tryd.prog 14 #[.string (AB ++ ⟨#[32, 71, 101, 116]⟩)] W (StepsEnd (stepsL (AD ++ [32, 71, 101, 116])) W) from by
    have := steps14_c (AD ++ [32, 71, 101, 116]) (by rw [List.length_append]; simp; omega) W
    rw [← txB_append, hAB] at this; exact this)
  have HG2 := Lib.hid (fun W => show Calls Tryd.prog 14 #[.string (AB ++ ⟨#[32, 80, 117, 116]⟩)] W (StepsEnd (stepsL (AD ++ [32, 80, 117, 116])) W) from by
    have := steps14_c (AD ++ [32, 80, 117, 116]) (by rw [List.length_append]; simp; omega) W
    rw [← txB_append, hAB] at this; exact this)
  have HG3 := Lib.hid (fun W => show Calls Tryd.prog 14 #[.string (AB ++ ⟨#[32, 79, 108, 100, 32, 66, 97, 99, 107, 32, 78, 101, 119]⟩)] W (StepsEnd (stepsL (AD ++ [32, 79, 108, 100, 32, 66, 97, 99, 107, 32, 78, 101, 119])) W) from by
    have := steps14_c (AD ++ [32, 79, 108, 100, 32, 66, 97, 99, 107, 32, 78, 101, 119]) (by rw [List.length_append]; simp; omega) W
    rw [← txB_append, hAB] at this; exact this)
  have HG4 := Lib.hid (fun W => show Calls Tryd.prog 14 #[.string JB] W (StepsEnd (stepsL JD) W) from by
    have := steps14_c JD hjl W
    rw [hJB] at this; exact this)
  clear hal hjl hAB hJB
  unfold StepsEnd at *
  have fin : ∀ (N : Nat) (L : List Int) (u z : World) (v : Value), Below N u z → True := fun _ _ _ _ _ _ => trivial
  go_enter Tryd.func12, Tryd.ntmps12
  go_wp2_with fail
  refine (HF.out _).mono ?_
  rintro _ u1 ⟨rfl, hb1⟩
  go_wp2_with fail
  refine (HN.out _).mono ?_
  rintro _ u2 ⟨rfl, hb2⟩
  have HB2 := Lib.hid (Below.trans hb1 (hb2.mono hb1.size))
  clear hb1 hb2
  go_wp2_with fail
  refine (HK.out _).mono ?_
  rintro _ u3 ⟨rfl, rfl⟩
  cases h0 : (K == 0)
  · cases h1 : (K == 1)
    · cases h2 : (K == 2)
      · cases h3 : (K == 3)
        · simp (config := { decide := true }) only [if_true, if_false, Bool.false_eq_true, reduceIte]
          go_wp2_with fail
          refine (HJ.out _).mono ?_
          rintro _ u4 ⟨rfl, hb⟩
          have HB := Lib.hid (Below.trans HB2.out (hb.mono HB2.out.size))
          clear hb
          go_wp2_with fail
          refine (HG4.out _).mono ?_
          rintro _ z ⟨v', rfl, ho, hb⟩
          have HE := Lib.hid (And.intro ho (Below.trans HB.out (hb.mono HB.out.size)))
          have hz := HB.out.size
          clear hb ho
          go_wp2
          go_ret
          exact ⟨_, rfl, ⟨HE.out.1.o, fun g hg => Nat.le_trans hz (HE.out.1.a g hg)⟩, HE.out.2⟩
        · simp (config := { decide := true }) only [if_true, if_false, Bool.false_eq_true, reduceIte]
          go_wp2_with fail
          refine (HA.out _).mono ?_
          rintro _ u4 ⟨rfl, hb⟩
          have HB := Lib.hid (Below.trans HB2.out (hb.mono HB2.out.size))
          clear hb
          go_wp2_with fail
          refine (HG3.out _).mono ?_
          rintro _ z ⟨v', rfl, ho, hb⟩
          have HE := Lib.hid (And.intro ho (Below.trans HB.out (hb.mono HB.out.size)))
          have hz := HB.out.size
          clear hb ho
          go_wp2
          go_ret
          exact ⟨_, rfl, ⟨HE.out.1.o, fun g hg => Nat.le_trans hz (HE.out.1.a g hg)⟩, HE.out.2⟩
      · simp (config := { decide := true }) only [if_true, if_false, Bool.false_eq_true, reduceIte]
        go_wp2_with fail
        refine (HA.out _).mono ?_
        rintro _ u4 ⟨rfl, hb⟩
        have HB := Lib.hid (Below.trans HB2.out (hb.mono HB2.out.size))
        clear hb
        go_wp2_with fail
        refine (HG2.out _).mono ?_
        rintro _ z ⟨v', rfl, ho, hb⟩
        have HE := Lib.hid (And.intro ho (Below.trans HB.out (hb.mono HB.out.size)))
        have hz := HB.out.size
        clear hb ho
        go_wp2
        go_ret
        exact ⟨_, rfl, ⟨HE.out.1.o, fun g hg => Nat.le_trans hz (HE.out.1.a g hg)⟩, HE.out.2⟩
    · cases hm : (M == 2)
      · simp (config := { decide := true }) only [if_true, if_false, Bool.false_eq_true, reduceIte]
        go_wp2_with fail
        refine (HA.out _).mono ?_
        rintro _ u4 ⟨rfl, hb⟩
        have HB := Lib.hid (Below.trans HB2.out (hb.mono HB2.out.size))
        clear hb
        go_wp2_with fail
        refine (HG1.out _).mono ?_
        rintro _ z ⟨v', rfl, ho, hb⟩
        have HE := Lib.hid (And.intro ho (Below.trans HB.out (hb.mono HB.out.size)))
        have hz := HB.out.size
        clear hb ho
        go_wp2
        go_ret
        exact ⟨_, rfl, ⟨HE.out.1.o, fun g hg => Nat.le_trans hz (HE.out.1.a g hg)⟩, HE.out.2⟩
      · simp (config := { decide := true }) only [if_true, if_false, Bool.false_eq_true, reduceIte]
        have HB := HB2
        go_wp2_with fail
        refine (steps14_c [86, 97, 108, 117, 101] (by decide) _).mono ?_
        rintro _ z ⟨v', rfl, ho, hb⟩
        have HE := Lib.hid (And.intro ho (Below.trans HB.out (hb.mono HB.out.size)))
        have hz := HB.out.size
        clear hb ho
        go_wp2
        go_ret
        exact ⟨_, rfl, ⟨HE.out.1.o, fun g hg => Nat.le_trans hz (HE.out.1.a g hg)⟩, HE.out.2⟩
  · simp (config := { decide := true }) only [if_true, if_false, Bool.false_eq_true, reduceIte]
    have HB := HB2
    go_wp2_with fail
    refine (steps14_c [78, 101, 120, 116] (by decide) _).mono ?_
    rintro _ z ⟨v', rfl, ho, hb⟩
    have HE := Lib.hid (And.intro ho (Below.trans HB.out (hb.mono HB.out.size)))
    have hz := HB.out.size
    clear hb ho
    go_wp2
    go_ret
    exact ⟨_, rfl, ⟨HE.out.1.o, fun g hg => Nat.le_trans hz (HE.out.1.a g hg)⟩, HE.out.2⟩
end Go.Proofs.YtcplegelppfdeaaDoor
