/-
  Layer 14's laws: MicroSequences (genseq14.py writes it).
-/
import Derived.Test.YtcplegelppfdeaaDoorMicroK14
set_option linter.unusedSimpArgs false
set_option linter.unusedVariables false
namespace Go.Proofs.YtcplegelppfdeaaDoor
open Go.RowKit Go.PlainAid

theorem steps_wr : stepsL [66, 97, 99, 107, 32, 78, 101, 119, 32, 80, 117, 116, 32, 80, 117, 115, 104, 72, 105, 103, 104, 32, 80, 117, 115, 104, 76, 111, 119, 32, 80, 117, 115, 104, 80, 32, 80, 117, 115, 104, 65] = wrL := by decide +kernel
theorem steps_may : stepsL [71, 101, 116, 32, 84, 97, 107, 101, 32, 67, 114, 111, 115, 115] = mayL := by decide +kernel
theorem steps_s0 : stepsL [78, 101, 120, 116, 32, 78, 101, 120, 116, 32, 68, 114, 111, 112, 32, 68, 114, 111, 112, 32, 68, 114, 111, 112, 32, 86, 101, 99, 76, 111, 119, 32, 86, 101, 99, 72, 105, 103, 104] = seqL 0 := by decide +kernel
theorem steps_s1 : stepsL [78, 101, 120, 116, 32, 78, 101, 120, 116, 32, 80, 117, 115, 104, 72, 105, 103, 104, 32, 80, 117, 115, 104, 76, 111, 119, 32, 80, 117, 115, 104, 80, 32, 86, 101, 99, 76, 111, 119, 32, 86, 101, 99, 72, 105, 103, 104] = seqL 1 := by decide +kernel
theorem seqL_two : seqL 2 = seqL 1 := rfl
def seqE (k : Int) : Int := if 0 ≤ k ∧ k ≤ 2 then 0 else 15
def seqQ (k : Int) : List Int := if 0 ≤ k ∧ k ≤ 2 then seqL k else []
theorem MicroK.seqs {LW : World → Prop} (K : MicroK LW) (k : Int) (w : World) (hL : LW w) : Calls Tryd.prog 13 #[.int .i64 k] w fun e u => ∃ v, e = .returned (.tuple #[v, .int .i64 (seqE k)]) ∧ HoldsW nE 1 u v (seqQ k) ∧ Below w.heap.size w u := by
  unfold seqE seqQ
  by_cases h : 0 ≤ k ∧ k ≤ 2
  · rw [if_pos h, if_pos h]
    exact (K.seq k h w hL).mono fun e u ⟨v, h1, h2, h3⟩ => ⟨v, h1, h2.h, h3⟩
  · rw [if_neg h, if_neg h]
    exact (K.seqN k h w hL).mono fun e u ⟨p, c, h1, h2⟩ => ⟨_, h1, .inl ⟨⟨p, c, rfl⟩, rfl⟩, h2⟩
set_option maxRecDepth 100000 in
set_option maxHeartbeats 16000000 in
theorem seqs_walk14 {LW : World → Prop} (K : MicroK LW) (k step : Int) (w : World) (hL : LW w) : Calls Tryd.prog 4 #[.int .i64 k, .int .i64 step] w fun e u => e = .returned (.bool true) ∧ Below w.heap.size w u := by
  have HA := Lib.hid (fun u (hu : Below w.heap.size w u) => awake14_c K u (K.stay hL hu))
  have HWr := Lib.hid (fun u (hu : Below w.heap.size w u) => K.writes step u (K.stay hL hu))
  have HMy := Lib.hid (fun u (hu : Below w.heap.size w u) => K.may step u (K.stay hL hu))
  have HS := Lib.hid (K.seqs k w hL)
  have HT1 := Lib.hid (fun u => steps14_c [66, 97, 99, 107, 32, 78, 101, 119, 32, 80, 117, 116, 32, 80, 117, 115, 104, 72, 105, 103, 104, 32, 80, 117, 115, 104, 76, 111, 119, 32, 80, 117, 115, 104, 80, 32, 80, 117, 115, 104, 65] (by decide) u)
  have HT2 := Lib.hid (fun u => steps14_c [71, 101, 116, 32, 84, 97, 107, 101, 32, 67, 114, 111, 115, 115] (by decide) u)
  have HT3 := Lib.hid (fun u => steps14_c [78, 101, 120, 116, 32, 78, 101, 120, 116, 32, 68, 114, 111, 112, 32, 68, 114, 111, 112, 32, 68, 114, 111, 112, 32, 86, 101, 99, 76, 111, 119, 32, 86, 101, 99, 72, 105, 103, 104] (by decide) u)
  have HT4 := Lib.hid (fun u => steps14_c [78, 101, 120, 116, 32, 78, 101, 120, 116, 32, 80, 117, 115, 104, 72, 105, 103, 104, 32, 80, 117, 115, 104, 76, 111, 119, 32, 80, 117, 115, 104, 80, 32, 86, 101, 99, 76, 111, 119, 32, 86, 101, 99, 72, 105, 103, 104] (by decide) u)
  rw [steps_wr] at HT1
  rw [steps_may] at HT2
  rw [steps_s0] at HT3
  rw [steps_s1] at HT4
  unfold StepsEnd at HT1 HT2 HT3 HT4
  clear hL
  go_enter Tryd.func4, Tryd.ntmps4
  go_wp2_with fail
  refine HS.out.mono ?_
  rintro _ u1 ⟨v1, rfl, hv, hb⟩
  obtain ⟨p1, c1, rfl⟩ := hv.form
  have HV1 := Lib.hid hv
  have HB1 := Lib.hid hb
  clear hv hb HS
  obtain ⟨q1, hq1⟩ : ∃ q, (seqQ k).length = q := ⟨_, rfl⟩
  obtain ⟨E, hE⟩ : ∃ q, seqE k = q := ⟨_, rfl⟩
  rw [hq1] at HV1 ⊢
  rw [hE]
  have HQ := Lib.hid (And.intro hq1 hE)
  clear hq1 hE
  go_wp2_with fail
  refine (HT1.out _).mono ?_
  rintro _ u2 ⟨v2, rfl, ho, hb⟩
  have HV := Lib.hid (StepsEnd.holds ho)
  have HV2 := Lib.hid (HV1.out.below hb)
  have HB := Lib.hid (Below.trans HB1.out (hb.mono HB1.out.size))
  clear ho hb HV1 HB1
  obtain ⟨pv, cv, rfl⟩ := HV.out.form
  go_wp2_with fail
  go_loopg [7, 9] 7 (fun kx sr si wr => ∃ (i : Nat) (R : Bool), si = .int .i64 i ∧ sr = .bool R ∧ i ≤ 7 ∧ 7 - i ≤ kx ∧ Hid (R = (wrL.take i).any (· == step)) ∧ Hid (Below u2.heap.size u2 wr))
  case atStart => exact ⟨0, false, by simp, rfl, by omega, by omega, Lib.hid rfl, Lib.hid (Below.refl _ _)⟩
  case round =>
    obtain ⟨i, R, rfl, rfl, hi, hix, HR, HBr⟩ := hrel
    by_cases hlt : i < 7
    · have hil : i < wrL.length := hlt
      have hd : decide ((i : Int) < 7) = true := decide_eq_true (by omega)
      have hin : (0 : Int) ≤ (i : Int) ∧ (i : Int) < 7 := by omega
      have hw : IntKind.i64.wrap ((i : Int) + 1) = (i : Int) + 1 := IntWalk.i64_in _ (by omega)
      obtain ⟨g, o, cap, e1, _, hc⟩ := HV.out.some (by decide)
      obtain ⟨rfl, -, rfl⟩ := Value.slice.inj e1
      have x0 := hc i _ (List.getElem?_eq_getElem hil) 0 _ rfl
      rw [Nat.mul_one, Nat.add_zero] at x0
      have x0 := kc HBr.out x0
      have hx := klt x0
      have HR1 := Lib.hid (show (wrL.take (i + 1)).any (· == step) = (R || (wrL[i] == step)) from by rw [List.take_add_one, List.getElem?_eq_getElem hil, List.any_append, HR.out]; simp)
      generalize wrL[i] = X at *
      clear e1 hc hil
      cases R
      · cases hX : (X == step)
        all_goals
          go_wp2
          go_roundg (7 - (i + 1))
          case measure => omega
          case rel => exact ⟨i + 1, _, by go_num, rfl, by omega, by omega, Lib.hid (by rw [HR1.out, hX]; rfl), HBr⟩
      · go_wp2
        go_roundg (7 - (i + 1))
        case measure => omega
        case rel => exact ⟨i + 1, _, by go_num, rfl, by omega, by omega, Lib.hid (by rw [HR1.out]; rfl), HBr⟩
    · obtain rfl : i = 7 := by omega
      have hd : decide (((7 : Nat) : Int) < 7) = false := by decide
      have A1 := Lib.hid (show R = wrL.any (· == step) from HR.out)
      have HBn := Lib.hid (Below.trans HB.out (HBr.out.mono HB.out.size))
      have HV3 := Lib.hid (HV2.out.below (HBr.out))
      clear HR HV HBr
      generalize R = A1v at *
      go_wp2_with fail
      refine (HT2.out _).mono ?_
      rintro _ u3 ⟨v3, rfl, ho, hb⟩
      have HV := Lib.hid (StepsEnd.holds ho)
      have HV4 := Lib.hid (HV3.out.below hb)
      have HB := Lib.hid (Below.trans HBn.out (hb.mono HBn.out.size))
      clear ho hb HV3 HBn
      obtain ⟨pv, cv, rfl⟩ := HV.out.form
      go_wp2_with fail
      go_loopg [10, 12] 3 (fun kx sr si wr => ∃ (i : Nat) (R : Bool), si = .int .i64 i ∧ sr = .bool R ∧ i ≤ 3 ∧ 3 - i ≤ kx ∧ Hid (R = (mayL.take i).any (· == step)) ∧ Hid (Below u3.heap.size u3 wr))
      case atStart => exact ⟨0, false, by simp, rfl, by omega, by omega, Lib.hid rfl, Lib.hid (Below.refl _ _)⟩
      case round =>
        obtain ⟨i, R, rfl, rfl, hi, hix, HR, HBr⟩ := hrel
        by_cases hlt : i < 3
        · have hil : i < mayL.length := hlt
          have hd : decide ((i : Int) < 3) = true := decide_eq_true (by omega)
          have hin : (0 : Int) ≤ (i : Int) ∧ (i : Int) < 3 := by omega
          have hw : IntKind.i64.wrap ((i : Int) + 1) = (i : Int) + 1 := IntWalk.i64_in _ (by omega)
          obtain ⟨g, o, cap, e1, _, hc⟩ := HV.out.some (by decide)
          obtain ⟨rfl, -, rfl⟩ := Value.slice.inj e1
          have x0 := hc i _ (List.getElem?_eq_getElem hil) 0 _ rfl
          rw [Nat.mul_one, Nat.add_zero] at x0
          have x0 := kc HBr.out x0
          have hx := klt x0
          have HR1 := Lib.hid (show (mayL.take (i + 1)).any (· == step) = (R || (mayL[i] == step)) from by rw [List.take_add_one, List.getElem?_eq_getElem hil, List.any_append, HR.out]; simp)
          generalize mayL[i] = X at *
          clear e1 hc hil
          cases R
          · cases hX : (X == step)
            all_goals
              go_wp2
              go_roundg (3 - (i + 1))
              case measure => omega
              case rel => exact ⟨i + 1, _, by go_num, rfl, by omega, by omega, Lib.hid (by rw [HR1.out, hX]; rfl), HBr⟩
          · go_wp2
            go_roundg (3 - (i + 1))
            case measure => omega
            case rel => exact ⟨i + 1, _, by go_num, rfl, by omega, by omega, Lib.hid (by rw [HR1.out]; rfl), HBr⟩
        · obtain rfl : i = 3 := by omega
          have hd : decide (((3 : Nat) : Int) < 3) = false := by decide
          have A2 := Lib.hid (show R = mayL.any (· == step) from HR.out)
          have HBn := Lib.hid (Below.trans HB.out (HBr.out.mono HB.out.size))
          have HV5 := Lib.hid (HV4.out.below (HBr.out))
          clear HR HV HBr
          generalize R = A2v at *
          have hA1 : A1v = isWr step := A1.out
          have hA2 : A2v = isMay step := A2.out
          clear A1 A2
          subst hA1
          subst hA2
          generalize isWr step = IW at *
          generalize isMay step = IM at *
          go_wp2_with fail
          refine (HWr.out _ HBn.out).mono ?_
          rintro _ u5 ⟨rfl, hb⟩
          have HV5 := Lib.hid (HV5.out.below hb)
          have HB5 := Lib.hid (Below.trans HBn.out (hb.mono HBn.out.size))
          clear hb
          go_wp2_with fail
          refine (HMy.out _ HB5.out).mono ?_
          rintro _ u6 ⟨rfl, hb⟩
          have HV6 := Lib.hid (HV5.out.below hb)
          have HB6 := Lib.hid (Below.trans HB5.out (hb.mono HB5.out.size))
          clear hb HV5 HB5 HBn
          by_cases h0 : k = 0
          · subst h0
            have hE0 : E = 0 := HQ.out.2.symm
            subst hE0
            go_wp2_with fail
            refine (HT3.out _).mono ?_
            rintro _ u7 ⟨v7, rfl, ho, hb⟩
            have HV7 := Lib.hid (And.intro (HV6.out.below hb) (StepsEnd.holds ho))
            have HB7 := Lib.hid (Below.trans HB6.out (hb.mono HB6.out.size))
            obtain ⟨p7, c7, rfl⟩ := HV7.out.2.form
            clear ho hb
            go_wp2_with fail
            refine (ints14_c (seqL 0) (seqL 0) (by decide) (by decide) _ _ _ (by have := HV7.out.1; rw [show seqQ 0 = seqL 0 from rfl] at this; exact this) HV7.out.2).mono ?_
            rintro _ u8 ⟨rfl, hb⟩
            have HB9 := Lib.hid (Below.trans HB7.out (hb.mono HB7.out.size))
            clear hb
            rw [beq_self_eq_true]
            go_wp2_with fail
            refine (HA.out _ HB9.out).mono ?_
            rintro _ z ⟨rfl, hb⟩
            have HZ := Lib.hid (Below.trans HB9.out (hb.mono HB9.out.size))
            clear hb
            go_wp2
            go_ret
            exact ⟨rfl, HZ.out⟩
          by_cases h1 : k = 1
          · subst h1
            have hE0 : E = 0 := HQ.out.2.symm
            subst hE0
            go_wp2_with fail
            refine (HT4.out _).mono ?_
            rintro _ u7 ⟨v7, rfl, ho, hb⟩
            have HV7 := Lib.hid (And.intro (HV6.out.below hb) (StepsEnd.holds ho))
            have HB7 := Lib.hid (Below.trans HB6.out (hb.mono HB6.out.size))
            obtain ⟨p7, c7, rfl⟩ := HV7.out.2.form
            clear ho hb
            go_wp2_with fail
            refine (ints14_c (seqL 1) (seqL 1) (by decide) (by decide) _ _ _ (by have := HV7.out.1; rw [show seqQ 1 = seqL 1 from rfl] at this; exact this) HV7.out.2).mono ?_
            rintro _ u8 ⟨rfl, hb⟩
            have HB9 := Lib.hid (Below.trans HB7.out (hb.mono HB7.out.size))
            clear hb
            rw [beq_self_eq_true]
            go_wp2_with fail
            refine (HA.out _ HB9.out).mono ?_
            rintro _ z ⟨rfl, hb⟩
            have HZ := Lib.hid (Below.trans HB9.out (hb.mono HB9.out.size))
            clear hb
            go_wp2
            go_ret
            exact ⟨rfl, HZ.out⟩
          by_cases h2 : k = 2
          · subst h2
            have hE0 : E = 0 := HQ.out.2.symm
            subst hE0
            go_wp2_with fail
            refine (HT4.out _).mono ?_
            rintro _ u7 ⟨v7, rfl, ho, hb⟩
            have HV7 := Lib.hid (And.intro (HV6.out.below hb) (StepsEnd.holds ho))
            have HB7 := Lib.hid (Below.trans HB6.out (hb.mono HB6.out.size))
            obtain ⟨p7, c7, rfl⟩ := HV7.out.2.form
            clear ho hb
            go_wp2_with fail
            refine (ints14_c (seqL 1) (seqL 1) (by decide) (by decide) _ _ _ (by have := HV7.out.1; rw [show seqQ 2 = seqL 1 from rfl] at this; exact this) HV7.out.2).mono ?_
            rintro _ u8 ⟨rfl, hb⟩
            have HB9 := Lib.hid (Below.trans HB7.out (hb.mono HB7.out.size))
            clear hb
            rw [beq_self_eq_true]
            go_wp2_with fail
            refine (HA.out _ HB9.out).mono ?_
            rintro _ z ⟨rfl, hb⟩
            have HZ := Lib.hid (Below.trans HB9.out (hb.mono HB9.out.size))
            clear hb
            go_wp2
            go_ret
            exact ⟨rfl, HZ.out⟩
          have k0 : (k == 0) = false := by simpa using h0
          have k1 : (k == 1) = false := by simpa using h1
          have k2 : (k == 2) = false := by simpa using h2
          have hE0 : E = 15 := by rw [← HQ.out.2]; unfold seqE; rw [if_neg (by omega)]
          have hq0 : q1 = 0 := by rw [← HQ.out.1]; unfold seqQ; rw [if_neg (by omega)]; rfl
          subst hE0
          subst hq0
          have HB9 := HB6
          go_wp2_with fail
          refine (HA.out _ HB9.out).mono ?_
          rintro _ z ⟨rfl, hb⟩
          have HZ := Lib.hid (Below.trans HB9.out (hb.mono HB9.out.size))
          clear hb
          go_wp2
          go_ret
          exact ⟨rfl, HZ.out⟩
end Go.Proofs.YtcplegelppfdeaaDoor
