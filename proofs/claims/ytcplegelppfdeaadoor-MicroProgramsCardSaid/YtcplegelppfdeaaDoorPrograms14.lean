/-
  Layer 14's laws: MicroPrograms.
-/
import Derived.Test.YtcplegelppfdeaaDoorMicroK14
set_option linter.unusedSimpArgs false
set_option linter.unusedVariables false
namespace Go.Proofs.YtcplegelppfdeaaDoor
open Go.RowKit Go.PlainAid

set_option maxRecDepth 100000 in
set_option maxHeartbeats 4000000 in
theorem programs_walk14 {LW : World → Prop} (K : MicroK LW) (b : Int) (h0 : 0 ≤ b ∧ b ≤ 255) (w : World) (hL : LW w) : Calls Tryd.prog 3 #[.int .u8 b] w fun e u => e = .returned (.bool true) ∧ Below w.heap.size w u := by
  obtain ⟨n, rfl⟩ : ∃ n : Nat, b = n := ⟨b.toNat, by omega⟩
  have hn : n < 256 := by omega
  have hw : IntKind.i64.wrap (n : Int) = n := IntWalk.i64_in _ (by omega)
  have HK := Lib.hid K
  have HL := Lib.hid hL
  have HA := Lib.hid (fun u (hu : Below w.heap.size w u) => awake14_c K u (K.stay hL hu))
  cases ho : isOp n
  · have HP := Lib.hid (K.no n hn ho w hL)
    have HF := Lib.hid (fun u => find_no14 n hn ho u)
    clear ho hL
    go_enter Tryd.func3, Tryd.ntmps3
    go_wp2_with fail
    refine HP.out.mono ?_
    rintro _ u ⟨p, c, rfl, hb⟩
    have HB := Lib.hid hb
    clear hb
    go_wp2_with fail
    refine (HF.out _).mono ?_
    rintro _ u2 ⟨rfl, hb⟩
    have HB2 := Lib.hid (Below.trans HB.out (hb.mono HB.out.size))
    clear hb
    go_wp2_with fail
    refine (HA.out _ HB2.out).mono ?_
    rintro _ z ⟨rfl, hb⟩
    have HZ := Lib.hid (Below.trans HB2.out (hb.mono HB2.out.size))
    clear hb
    go_wp2
    go_ret
    exact ⟨rfl, HZ.out⟩
  · have HP := Lib.hid (K.prog n hn ho w hL)
    obtain ⟨r, hF⟩ := find_byte n hn ho
    have HF := Lib.hid hF
    have HD := Lib.hid (fun u => prog_byte n hn ho u)
    have hlen : (progL n).length ≤ 6 := of_decide_eq_true (progL_len ⟨n, hn⟩)
    have hr : decide ((r : Int) < 0) = false := decide_eq_false (by omega)
    have HI := Lib.hid (fun v1 v2 W h1 h2 => ints14_c (progL n) (progL n) (by omega) (by omega) v1 v2 W h1 h2)
    rw [beq_self_eq_true] at HI
    clear ho hL hF
    generalize progL n = PL at *
    go_enter Tryd.func3, Tryd.ntmps3
    go_wp2_with fail
    refine HP.out.mono ?_
    rintro _ u ⟨v, rfl, hm, hb⟩
    obtain ⟨p, c, rfl⟩ := hm.h.form
    have HM := Lib.hid hm.h
    have HB := Lib.hid hb
    clear hb hm
    go_wp2_with fail
    refine (HF.out _).mono ?_
    rintro _ u2 ⟨rfl, hb⟩
    have HM2 := Lib.hid (HM.out.below hb)
    have HB2 := Lib.hid (Below.trans HB.out (hb.mono HB.out.size))
    clear hb HM
    go_wp2_with fail
    refine (HD.out _).mono ?_
    rintro _ u3 ⟨v2, rfl, ho2, hb⟩
    have HM3 := Lib.hid (And.intro (HM2.out.below hb) (StepsEnd.holds ho2))
    have HB3 := Lib.hid (Below.trans HB2.out (hb.mono HB2.out.size))
    obtain ⟨p2, c2, rfl⟩ := HM3.out.2.form
    clear hb ho2 HM2
    go_wp2_with fail
    refine (HI.out _ _ _ HM3.out.1 HM3.out.2).mono ?_
    rintro _ u4 ⟨rfl, hb⟩
    have HB4 := Lib.hid (Below.trans HB3.out (hb.mono HB3.out.size))
    clear hb HM3
    go_wp2_with fail
    refine (HA.out _ HB4.out).mono ?_
    rintro _ z ⟨rfl, hb⟩
    have HZ := Lib.hid (Below.trans HB4.out (hb.mono HB4.out.size))
    clear hb
    go_wp2
    go_ret
    exact ⟨rfl, HZ.out⟩
end Go.Proofs.YtcplegelppfdeaaDoor
