/-
  Layer 14's laws: MicroWrites.
-/
import Derived.Test.YtcplegelppfdeaaDoorMicroK14
set_option linter.unusedSimpArgs false
set_option linter.unusedVariables false
namespace Go.Proofs.YtcplegelppfdeaaDoor
open Go.RowKit Go.PlainAid

def kd14 (b : Nat) : Int := kindP (nm b) (md b)
def wrN (l : List Int) : Nat := (l.filter isWr).length
def lastWr (l : List Int) : Bool := isWr (l.getLastD 0)
def wrOk (l : List Int) (k : Int) : Bool :=
  decide (1 ≤ l.length) && decide (l.length ≤ 6) &&
  (if k = 2 then wrN l == 1 && lastWr l
   else if k = 3 then wrN l == 2 && lastWr l && decide (4 ≤ l.length) && isWr (l.getD (l.length - 2) 0)
   else if k = 4 then decide (wrN l ≤ 3) else wrN l == 0)
theorem wr_all14 : ∀ b : Fin 256, (!isOp b.val || wrOk (progL b.val) (kd14 b.val)) = true := by decide +kernel
theorem wrOk_cases {l : List Int} {k : Int} (h : wrOk l k = true) : (k = 2 ∧ wrN l = 1 ∧ lastWr l = true) ∨ (k = 3 ∧ wrN l = 2 ∧ lastWr l = true ∧ 4 ≤ l.length ∧ isWr (l.getD (l.length - 2) 0) = true) ∨ (k = 4 ∧ wrN l ≤ 3) ∨ (k ≠ 2 ∧ k ≠ 3 ∧ k ≠ 4 ∧ wrN l = 0) := by
  unfold wrOk at h
  rw [Bool.and_eq_true] at h
  have h := h.2
  by_cases k2 : k = 2
  · rw [if_pos k2] at h; simp only [Bool.and_eq_true, beq_iff_eq] at h; exact .inl ⟨k2, h.1, h.2⟩
  · rw [if_neg k2] at h
    by_cases k3 : k = 3
    · rw [if_pos k3] at h; simp only [Bool.and_eq_true, beq_iff_eq, decide_eq_true_eq] at h; exact .inr (.inl ⟨k3, h.1.1.1, h.1.1.2, h.1.2, h.2⟩)
    · rw [if_neg k3] at h
      by_cases k4 : k = 4
      · rw [if_pos k4] at h; exact .inr (.inr (.inl ⟨k4, of_decide_eq_true h⟩))
      · rw [if_neg k4] at h; exact .inr (.inr (.inr ⟨k2, k3, k4, eq_of_beq h⟩))
theorem ofy14 (b : Nat) (hb : b < 256) (ho : isOp b = true) (w : World) : Calls Tryd.prog 17 #[.int .u8 b] w fun e w' => e = .returned (.tuple #[.agg #[.string ⟨(nm b).toArray⟩, .int .i64 (md b), .int .i64 (kd14 b)], .int .i64 0]) ∧ Below w.heap.size w w' := by
  have hv : ofV b = .tuple #[.agg #[.string ⟨(nm b).toArray⟩, .int .i64 (md b), .int .i64 (kd14 b)], .int .i64 0] := by unfold ofV opC errOf kd14; rw [ho]; rfl
  rw [← hv]; exact oof_c b hb w
theorem ofn14 (b : Nat) (hb : b < 256) (ho : isOp b = false) (w : World) : Calls Tryd.prog 17 #[.int .u8 b] w fun e w' => e = .returned (.tuple #[.agg #[.string ⟨#[]⟩, .int .i64 0, .int .i64 0], .int .i64 13]) ∧ Below w.heap.size w w' := by
  have hv : ofV b = .tuple #[.agg #[.string ⟨#[]⟩, .int .i64 0, .int .i64 0], .int .i64 13] := by unfold ofV opC errOf; rw [ho]; rfl
  rw [← hv]; exact oof_c b hb w
set_option maxRecDepth 100000 in
set_option maxHeartbeats 16000000 in
theorem writes_walk14 {LW : World → Prop} (K : MicroK LW) (b : Int) (h0 : 0 ≤ b ∧ b ≤ 255) (w : World) (hL : LW w) : Calls Tryd.prog 7 #[.int .u8 b] w fun e u => e = .returned (.bool true) ∧ Below w.heap.size w u := by
  obtain ⟨n, rfl⟩ : ∃ n : Nat, b = n := ⟨b.toNat, by omega⟩
  have hn : n < 256 := by omega
  have HA := Lib.hid (fun u (hu : Below w.heap.size w u) => awake14_c K u (K.stay hL hu))
  have HWr := Lib.hid (fun k u (hu : Below w.heap.size w u) => K.writes k u (K.stay hL hu))
  cases ho : isOp n
  · have HP := Lib.hid (K.no n hn ho w hL)
    have HF := Lib.hid (fun u => ofn14 n hn ho u)
    clear ho hL
    go_enter Tryd.func7, Tryd.ntmps7
    go_wp2_with fail
    refine HP.out.mono ?_
    rintro _ u ⟨p, c, rfl, hb⟩
    have HB := Lib.hid hb
    clear hb
    go_wp2_with fail
    refine (HF.out _).mono ?_
    rintro _ u2 ⟨rfl, hb⟩
    have HB2 := Lib.hid (Below.trans HB.out (hb.mono HB.out.size))
    clear hb
    go_wp2_with fail
    have hbW : Below u2.heap.size u2 (u2.alloc (Obj.cells #[.string ⟨#[]⟩, .int .i64 0, .int .i64 0] 37)) := by go_grown
    generalize (u2.alloc (Obj.cells #[.string ⟨#[]⟩, .int .i64 0, .int .i64 0] 37)) = W at *
    have HB3 := Lib.hid (Below.trans HB2.out (hbW.mono HB2.out.size))
    clear hbW HB2
    refine (HA.out _ HB3.out).mono ?_
    rintro _ z ⟨rfl, hb⟩
    have HZ := Lib.hid (Below.trans HB3.out (hb.mono HB3.out.size))
    clear hb
    go_wp2
    go_ret
    exact ⟨rfl, HZ.out⟩
  · have HP := Lib.hid (K.prog n hn ho w hL)
    have HF := Lib.hid (fun u => ofy14 n hn ho u)
    have hok : wrOk (progL n) (kd14 n) = true := by have := wr_all14 ⟨n, hn⟩; simp only [ho, Bool.not_true, Bool.false_or] at this; exact this
    clear ho hL
    generalize progL n = PL at *
    generalize kd14 n = KD at *
    have hl6 : 1 ≤ PL.length ∧ PL.length ≤ 6 := by unfold wrOk at hok; simp only [Bool.and_eq_true, decide_eq_true_eq] at hok; exact hok.1
    have HOK := Lib.hid hok
    clear hok
    go_enter Tryd.func7, Tryd.ntmps7
    go_wp2_with fail
    refine HP.out.mono ?_
    rintro _ u ⟨v, rfl, hm, hb⟩
    obtain ⟨p, c, rfl⟩ := hm.h.form
    have HM := Lib.hid hm.h
    have HB := Lib.hid hb
    clear hb hm HP
    go_wp2_with fail
    refine (HF.out _).mono ?_
    rintro _ u2 ⟨rfl, hb⟩
    have HV := Lib.hid (HM.out.below hb)
    have HB2 := Lib.hid (Below.trans HB.out (hb.mono HB.out.size))
    clear hb HM HB HF
    obtain ⟨q, hq⟩ : ∃ q, PL.length = q := ⟨_, rfl⟩
    rw [hq] at hl6 HV ⊢
    have HQ := Lib.hid hq
    clear hq
    go_wp2_with fail
    have hbW : Below u2.heap.size u2 (u2.alloc (Obj.cells #[.string ⟨(nm n).toArray⟩, .int .i64 (md n), .int .i64 KD] 37)) := by go_grown
    have hk : (u2.alloc (Obj.cells #[.string ⟨(nm n).toArray⟩, .int .i64 (md n), .int .i64 KD] 37)).cell? ⟨u2.heap.size, 2, none⟩ = some (.int .i64 KD) := by go_simp; first | done | rfl
    have HV2 := Lib.hid (HV.out.below hbW)
    have HB3 := Lib.hid (Below.trans HB2.out (hbW.mono HB2.out.size))
    generalize (u2.alloc (Obj.cells #[.string ⟨(nm n).toArray⟩, .int .i64 (md n), .int .i64 KD] 37)) = W at *
    have HK := Lib.hid hk
    clear hk hbW HB2 HV
    go_loopg [7, 8] q (fun kx sn si wr => ∃ (i m : Nat), si = .int .i64 i ∧ sn = .int .i64 m ∧ i ≤ q ∧ q - i ≤ kx ∧ Hid (m = wrN (PL.take i)) ∧ m ≤ i ∧ Hid (Below W.heap.size W wr))
    case atStart => exact ⟨0, 0, by simp, rfl, by omega, by omega, Lib.hid rfl, by omega, Lib.hid (Below.refl _ _)⟩
    case round =>
      obtain ⟨i, m, rfl, rfl, hi, hix, HR, hmi, HBr⟩ := hrel
      by_cases hlt : i < q
      · have hil : i < PL.length := by rw [HQ.out]; exact hlt
        have hd : decide ((i : Int) < q) = true := decide_eq_true (by omega)
        have hin : (0 : Int) ≤ (i : Int) ∧ (i : Int) < q := by omega
        have hw : IntKind.i64.wrap ((i : Int) + 1) = (i : Int) + 1 := IntWalk.i64_in _ (by omega)
        have hwm : IntKind.i64.wrap ((m : Int) + 1) = (m : Int) + 1 := IntWalk.i64_in _ (by omega)
        obtain ⟨g, o, cap, e1, _, hc⟩ := HV2.out.some (by omega)
        obtain ⟨rfl, -, rfl⟩ := Value.slice.inj e1
        have x0 := hc i _ (List.getElem?_eq_getElem hil) 0 _ rfl
        rw [Nat.mul_one, Nat.add_zero] at x0
        have x0 := kc HBr.out x0
        have hx := klt x0
        have HR1 := Lib.hid (show wrN (PL.take (i + 1)) = m + (if isWr PL[i] then 1 else 0) from by unfold wrN at *; rw [List.take_add_one, List.getElem?_eq_getElem hil, List.filter_append, List.length_append, HR.out]; cases h : isWr PL[i] <;> simp [h])
        generalize PL[i] = X at *
        clear e1 hc hil
        go_wp2_with fail
        refine (HWr.out X _ (Below.trans HB3.out (HBr.out.mono HB3.out.size))).mono ?_
        rintro _ ur ⟨rfl, hb⟩
        have HBr2 := Lib.hid (Below.trans HBr.out (hb.mono HBr.out.size))
        clear hb x0 hx
        cases hX : isWr X
        · rw [hX] at HR1
          go_wp2
          go_roundg (q - (i + 1))
          case measure => omega
          case rel => exact ⟨i + 1, m, by first | (go_num; done) | (rw [hw]; rfl), rfl, by omega, by omega, Lib.hid (by rw [HR1.out]; simp), by omega, HBr2⟩
        · rw [hX] at HR1
          go_wp2
          go_roundg (q - (i + 1))
          case measure => omega
          case rel => exact ⟨i + 1, m + 1, by first | (go_num; done) | (rw [hw]; rfl), by first | (go_num; done) | (rw [hwm]; rfl), by omega, by omega, Lib.hid (by rw [HR1.out]; simp), by omega, HBr2⟩
      · obtain rfl : i = q := by omega
        have hd : decide (((i : Nat) : Int) < i) = false := by simp
        have HN := Lib.hid (show m = wrN PL from by have := HR.out; rwa [List.take_of_length_le (by rw [HQ.out]; omega)] at this)
        clear HR
        have hd1 : decide ((i : Int) < 1) = false := decide_eq_false (by omega)
        have hd6 : decide ((6 : Int) < i) = false := decide_eq_false (by omega)
        have hw1 : IntKind.i64.wrap ((i : Int) - 1) = ((i - 1 : Nat) : Int) := by rw [IntWalk.i64_in _ (by omega)]; omega
        have hin1 : (0 : Int) ≤ ((i - 1 : Nat) : Int) ∧ ((i - 1 : Nat) : Int) < i := by omega
        have hil : i - 1 < PL.length := by rw [HQ.out]; omega
        obtain ⟨g, o, cap, e1, _, hc⟩ := HV2.out.some (by omega)
        obtain ⟨rfl, -, rfl⟩ := Value.slice.inj e1
        have x1 := hc (i - 1) _ (List.getElem?_eq_getElem hil) 0 _ rfl
        rw [Nat.mul_one, Nat.add_zero] at x1
        have x1 := kc HBr.out x1
        have hx1 := klt x1
        have HL := Lib.hid (show isWr PL[i - 1] = lastWr PL from by unfold lastWr; rw [List.getLastD_eq_getLast?, List.getLast?_eq_getElem?, HQ.out, List.getElem?_eq_getElem hil]; rfl)
        generalize PL[i - 1] = X at *
        clear e1 hc hil
        go_wp2_with fail
        refine (HWr.out X _ (Below.trans HB3.out (HBr.out.mono HB3.out.size))).mono ?_
        rintro _ ur ⟨rfl, hb⟩
        have HB4 := Lib.hid (Below.trans HBr.out (hb.mono HBr.out.size))
        clear hb x1 hx1
        rw [HL.out]
        have HB5 := Lib.hid (Below.trans HB3.out (HB4.out.mono HB3.out.size))
        have x2 := kc HB4.out HK.out
        have hx2 := klt x2
        have hOK := wrOk_cases HOK.out
        rw [← HN.out, HQ.out] at hOK
        rcases hOK with ⟨rfl, rfl, hl⟩ | ⟨rfl, rfl, hl, h4, h2⟩ | ⟨rfl, hm3⟩ | ⟨k2, k3, k4, rfl⟩
        · rw [hl]
          clear HL HN
          go_wp2_with fail
          refine (HA.out _ HB5.out).mono ?_
          rintro _ z ⟨rfl, hb⟩
          have HZ := Lib.hid (Below.trans HB5.out (hb.mono (HB5.out).size))
          clear hb
          go_wp2
          go_ret
          exact ⟨rfl, HZ.out⟩
        · rw [hl]
          clear HL HN
          have hd4 : decide ((4 : Int) ≤ i) = true := decide_eq_true (by omega)
          have hw2 : IntKind.i64.wrap ((i : Int) - 2) = ((i - 2 : Nat) : Int) := by rw [IntWalk.i64_in _ (by omega)]; omega
          have hin2 : (0 : Int) ≤ ((i - 2 : Nat) : Int) ∧ ((i - 2 : Nat) : Int) < i := by omega
          have hil : i - 2 < PL.length := by rw [HQ.out]; omega
          obtain ⟨g', o', cap', e1, _, hc⟩ := HV2.out.some (by omega)
          obtain ⟨e2, -, -⟩ := Value.slice.inj e1
          obtain ⟨rfl, rfl, -⟩ := Addr.mk.inj (Option.some.inj e2)
          have x3 := hc (i - 2) _ (List.getElem?_eq_getElem hil) 0 _ rfl
          rw [Nat.mul_one, Nat.add_zero] at x3
          have x3 := kc HB4.out (x3)
          have hx3 := klt x3
          have H2 := Lib.hid (show isWr PL[i - 2] = true from by rw [← h2, List.getD_eq_getElem?_getD, List.getElem?_eq_getElem hil]; rfl)
          generalize PL[i - 2] = X2 at *
          clear e1 e2 hc hil h2
          go_wp2_with fail
          refine (HWr.out X2 _ HB5.out).mono ?_
          rintro _ us ⟨rfl, hb⟩
          have HB6 := Lib.hid (Below.trans HB5.out (hb.mono HB5.out.size))
          clear hb x3 hx3
          rw [H2.out]
          go_wp2_with fail
          refine (HA.out _ HB6.out).mono ?_
          rintro _ z ⟨rfl, hb⟩
          have HZ := Lib.hid (Below.trans HB6.out (hb.mono (HB6.out).size))
          clear hb
          go_wp2
          go_ret
          exact ⟨rfl, HZ.out⟩
        · have hm3' : decide ((m : Int) ≤ 3) = true := decide_eq_true (by omega)
          go_wp2_with fail
          refine (HA.out _ HB5.out).mono ?_
          rintro _ z ⟨rfl, hb⟩
          have HZ := Lib.hid (Below.trans HB5.out (hb.mono (HB5.out).size))
          clear hb
          go_wp2
          go_ret
          exact ⟨rfl, HZ.out⟩
        · have hk2 : (KD == 2) = false := by simpa using k2
          have hk3 : (KD == 3) = false := by simpa using k3
          have hk4 : (KD == 4) = false := by simpa using k4
          go_wp2_with fail
          refine (HA.out _ HB5.out).mono ?_
          rintro _ z ⟨rfl, hb⟩
          have HZ := Lib.hid (Below.trans HB5.out (hb.mono (HB5.out).size))
          clear hb
          go_wp2
          go_ret
          exact ⟨rfl, HZ.out⟩
end Go.Proofs.YtcplegelppfdeaaDoor
