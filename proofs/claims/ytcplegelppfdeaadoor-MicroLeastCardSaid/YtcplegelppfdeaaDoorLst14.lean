/-
  Layer 14's laws: MicroLeast.
-/
import Derived.Test.YtcplegelppfdeaaDoorWr14
import Derived.Test.YtcplegelppfdeaaDoorCycp
set_option linter.unusedSimpArgs false
set_option linter.unusedVariables false
namespace Go.Proofs.YtcplegelppfdeaaDoor
open Go.RowKit Go.PlainAid

def redB (l : List Int) (i : Nat) : Bool := l.getD i 0 == 27 || (l.getD i 0 == 28 || (l.getD i 0 == 8 && (decide (0 < i) && l.getD (i - 1) 0 == 7)))
def redN (l : List Int) : Nat → Nat
  | 0 => 0
  | i + 1 => redN l i + (if redB l i then 1 else 0)
theorem redN_le (l : List Int) : ∀ i, redN l i ≤ i
  | 0 => Nat.le_refl _
  | i + 1 => by have := redN_le l i; unfold redN; split <;> omega
def pushS (s : List UInt8) : Bool := s == [80, 72, 65] || (s == [80, 72, 80] || (s == [74, 83, 82] || s == [66, 82, 75]))
def stepOk (x : Int) (i : Nat) (k : Int) (s : List UInt8) : Bool :=
  x == 27 || (x == 28 || ((x == 8 && decide (0 < i)) || (!(x == 27) && (!(x == 28) && (!(x == 8) && (decide (0 ≤ x) && (decide (x < 31) && (!isWr x || (k == 2 || (k == 3 || pushS s)))))))))) 
def leastOk (b : Nat) : Bool := decide ((progL b).length ≤ 6) && ((List.range 6).all fun i => decide ((progL b).length ≤ i) || stepOk ((progL b).getD i 0) i (kd14 b) (nm b)) && decide (1 + ((progL b).length : Int) - redN (progL b) (progL b).length = cycV b)
theorem least_all14 : ∀ b : Fin 256, (!isOp b.val || leastOk b.val) = true := by decide +kernel
theorem stepOk_cases {x : Int} {i : Nat} {k : Int} {s : List UInt8} (h : stepOk x i k s = true) : x = 27 ∨ x = 28 ∨ (x = 8 ∧ 0 < i) ∨ ((x == 27) = false ∧ (x == 28) = false ∧ (x == 8) = false ∧ 0 ≤ x ∧ x < 31 ∧ (isWr x = false ∨ (isWr x = true ∧ (k = 2 ∨ k = 3 ∨ ((k == 2) = false ∧ (k == 3) = false ∧ pushS s = true))))) := by
  unfold stepOk at h
  simp only [Bool.or_eq_true, Bool.and_eq_true, Bool.not_eq_true', beq_iff_eq, decide_eq_true_eq, beq_eq_false_iff_ne] at h ⊢
  rcases h with h | h | h | ⟨h1, h2, h3, h4, h5, h6⟩
  · exact .inl h
  · exact .inr (.inl h)
  · exact .inr (.inr (.inl h))
  · refine .inr (.inr (.inr ⟨h1, h2, h3, h4, h5, ?_⟩))
    cases hw : isWr x
    · exact .inl rfl
    · rw [hw] at h6
      refine .inr ⟨rfl, ?_⟩
      by_cases k2 : k = 2
      · exact .inl k2
      · by_cases k3 : k = 3
        · exact .inr (.inl k3)
        · rcases h6 with h6 | h6 | h6 | h6
          · cases h6
          · exact absurd h6 k2
          · exact absurd h6 k3
          · exact .inr (.inr ⟨k2, k3, h6⟩)
theorem pushS_cases {s : List UInt8} (h : pushS s = true) : (s == [80, 72, 65]) = true ∨ ((s == [80, 72, 65]) = false ∧ (s == [80, 72, 80]) = true) ∨ ((s == [80, 72, 65]) = false ∧ (s == [80, 72, 80]) = false ∧ (s == [74, 83, 82]) = true) ∨ ((s == [80, 72, 65]) = false ∧ (s == [80, 72, 80]) = false ∧ (s == [74, 83, 82]) = false ∧ (s == [66, 82, 75]) = true) := by
  unfold pushS at h
  cases h1 : s == [80, 72, 65] <;> cases h2 : s == [80, 72, 80] <;> cases h3 : s == [74, 83, 82] <;> cases h4 : s == [66, 82, 75] <;> simp_all
theorem cyc_no14 (b : Nat) (hb : b < 256) (ho : isOp b = false) (w : World) : Calls Tryd.prog 18 #[.int .u8 b] w fun e w' => e = .returned (.int .i64 0) ∧ Below w.heap.size w w' := by
  have := cycp_no b hb ho w
  unfold cycV at this
  rw [ho] at this
  exact this
set_option maxRecDepth 100000 in
set_option maxHeartbeats 16000000 in
theorem least_walk14 {LW : World → Prop} (K : MicroK LW) (hLP : ∀ w, LW w → LaidPc w) (b : Int) (h0 : 0 ≤ b ∧ b ≤ 255) (w : World) (hL : LW w) : Calls Tryd.prog 5 #[.int .u8 b] w fun e u => e = .returned (.bool true) ∧ Below w.heap.size w u := by
  obtain ⟨n, rfl⟩ : ∃ n : Nat, b = n := ⟨b.toNat, by omega⟩
  have hn : n < 256 := by omega
  have HA := Lib.hid (fun u (hu : Below w.heap.size w u) => awake14_c K u (K.stay hL hu))
  have HWr := Lib.hid (fun k u (hu : Below w.heap.size w u) => K.writes k u (K.stay hL hu))
  cases ho : isOp n
  · have HP := Lib.hid (K.no n hn ho w hL)
    have HF := Lib.hid (fun u => ofn14 n hn ho u)
    have HC := Lib.hid (fun u => cyc_no14 n hn ho u)
    clear ho hL
    go_enter Tryd.func5, Tryd.ntmps5
    go_wp2_with fail
    refine HP.out.mono ?_
    rintro _ u ⟨p, c, rfl, hb⟩
    have HB := Lib.hid hb
    clear hb
    go_wp2_with fail
    refine (HF.out _).mono ?_
    rintro _ u2 ⟨rfl, hb⟩
    have HB2 := Lib.hid (Below.trans HB.out (hb.mono HB.out.size))
    clear hb
    go_wp2_with fail
    have hbW : Below u2.heap.size u2 (u2.alloc (Obj.cells #[.string ⟨#[]⟩, .int .i64 0, .int .i64 0] 37)) := by go_grown
    generalize (u2.alloc (Obj.cells #[.string ⟨#[]⟩, .int .i64 0, .int .i64 0] 37)) = W at *
    have HB3 := Lib.hid (Below.trans HB2.out (hbW.mono HB2.out.size))
    clear hbW HB2
    refine (HC.out _).mono ?_
    rintro _ u3 ⟨rfl, hb⟩
    have HB4 := Lib.hid (Below.trans HB3.out (hb.mono HB3.out.size))
    clear hb
    go_wp2_with fail
    refine (HA.out _ HB4.out).mono ?_
    rintro _ z ⟨rfl, hb⟩
    have HZ := Lib.hid (Below.trans HB4.out (hb.mono HB4.out.size))
    clear hb
    go_wp2
    go_ret
    exact ⟨rfl, HZ.out⟩
  · have HP := Lib.hid (K.prog n hn ho w hL)
    have HF := Lib.hid (fun u => ofy14 n hn ho u)
    have HC := Lib.hid (fun u (hu : Below w.heap.size w u) => cycp_c n hn u (hLP u (K.stay hL hu)))
    have hok : leastOk n = true := by have := least_all14 ⟨n, hn⟩; simp only [ho, Bool.not_true, Bool.false_or] at this; exact this
    unfold leastOk at hok
    simp only [Bool.and_eq_true, decide_eq_true_eq] at hok
    obtain ⟨⟨hl6, hst⟩, hcy⟩ := hok
    clear ho hL
    have hS : (ByteArray.mk (nm n).toArray).toList = nm n := toList_mk _
    generalize cycV n = CV at *
    generalize progL n = PL at *
    generalize kd14 n = KD at *
    generalize nm n = NM at *
    generalize ByteArray.mk NM.toArray = S at *
    have HST := Lib.hid (show ∀ i, i < PL.length → stepOk (PL.getD i 0) i KD S.toList = true from fun i hi => by
      have := List.all_eq_true.1 hst i (List.mem_range.2 (by omega))
      simp only [Bool.or_eq_true, decide_eq_true_eq] at this
      rw [hS]
      exact this.resolve_left (by omega))
    clear hst hS
    go_enter Tryd.func5, Tryd.ntmps5
    go_wp2_with fail
    refine HP.out.mono ?_
    rintro _ u ⟨v, rfl, hm, hb⟩
    obtain ⟨p, c, rfl⟩ := hm.h.form
    have HM := Lib.hid hm.h
    have HB := Lib.hid hb
    clear hb hm HP
    go_wp2_with fail
    refine (HF.out _).mono ?_
    rintro _ u2 ⟨rfl, hb⟩
    have HV := Lib.hid (HM.out.below hb)
    have HB2 := Lib.hid (Below.trans HB.out (hb.mono HB.out.size))
    clear hb HM HB HF
    obtain ⟨q, hq⟩ : ∃ q, PL.length = q := ⟨_, rfl⟩
    rw [hq] at hl6 hcy HV ⊢
    have HQ := Lib.hid hq
    have HCY := Lib.hid hcy
    clear hq hcy
    have hw0 : IntKind.i64.wrap (1 + (q : Int)) = 1 + (q : Int) := IntWalk.i64_in _ (by omega)
    go_wp2_with fail
    have hbW : Below u2.heap.size u2 (u2.alloc (Obj.cells #[.string S, .int .i64 (md n), .int .i64 KD] 37)) := by go_grown
    have hk0 : (u2.alloc (Obj.cells #[.string S, .int .i64 (md n), .int .i64 KD] 37)).cell? ⟨u2.heap.size, 0, none⟩ = some (.string S) := by go_simp; first | done | rfl
    have hk2 : (u2.alloc (Obj.cells #[.string S, .int .i64 (md n), .int .i64 KD] 37)).cell? ⟨u2.heap.size, 2, none⟩ = some (.int .i64 KD) := by go_simp; first | done | rfl
    have HV2 := Lib.hid (HV.out.below hbW)
    have HB3 := Lib.hid (Below.trans HB2.out (hbW.mono HB2.out.size))
    generalize (u2.alloc (Obj.cells #[.string S, .int .i64 (md n), .int .i64 KD] 37)) = W at *
    have HK0 := Lib.hid hk0
    have HK2 := Lib.hid hk2
    clear hk0 hk2 hbW HB2 HV
    go_loopg [7, 8] q (fun kx sn si wr => ∃ (i : Nat) (M : Int), si = .int .i64 i ∧ sn = .int .i64 M ∧ i ≤ q ∧ q - i ≤ kx ∧ Hid (M = 1 + q - redN PL i) ∧ -7 ≤ M ∧ M ≤ 8 ∧ Hid (Below W.heap.size W wr))
    case atStart => exact ⟨0, 1 + q, by simp, by first | (go_num; done) | (rw [hw0]; rfl) | rfl, by omega, by omega, Lib.hid (by show (1 : Int) + q = 1 + q - (0 : Nat); omega), by omega, by omega, Lib.hid (Below.refl _ _)⟩
    case round =>
      obtain ⟨i, M, rfl, rfl, hi, hix, HR, hm7, hm8, HBr⟩ := hrel
      by_cases hlt : i < q
      · have hil : i < PL.length := by rw [HQ.out]; exact hlt
        have hd : decide ((i : Int) < q) = true := decide_eq_true (by omega)
        have hin : (0 : Int) ≤ (i : Int) ∧ (i : Int) < q := by omega
        have hw : IntKind.i64.wrap ((i : Int) + 1) = (i : Int) + 1 := IntWalk.i64_in _ (by omega)
        have hwm : IntKind.i64.wrap (M - 1) = M - 1 := IntWalk.i64_in _ (by omega)
        obtain ⟨g, o, cap, e1, _, hc⟩ := HV2.out.some (by omega)
        obtain ⟨rfl, -, rfl⟩ := Value.slice.inj e1
        have x0 := hc i _ (List.getElem?_eq_getElem hil) 0 _ rfl
        rw [Nat.mul_one, Nat.add_zero] at x0
        have x0 := kc HBr.out x0
        have hx := klt x0
        have eX : PL.getD i 0 = PL[i] := by rw [List.getD_eq_getElem?_getD, List.getElem?_eq_getElem hil]; rfl
        have hcs := stepOk_cases (HST.out i hil)
        have HN1 := Lib.hid (show redN PL (i + 1) = redN PL i + (if redB PL i then 1 else 0) from rfl)
        have HRB := Lib.hid (show redB PL i = (PL[i] == 27 || (PL[i] == 28 || (PL[i] == 8 && (decide (0 < i) && PL.getD (i - 1) 0 == 7)))) from by unfold redB; rw [eX])
        rw [eX] at hcs
        have HC2 := Lib.hid hc
        clear hc e1 eX
        generalize PL[i] = X at *
        clear hil
        have HS0 := Lib.hid (fun (z : World) (hz : Below W.heap.size W z) => kc hz HK0.out)
        have HS2 := Lib.hid (fun (z : World) (hz : Below W.heap.size W z) => kc hz HK2.out)
        rcases hcs with rfl | rfl | ⟨rfl, hpos⟩ | ⟨n27, n28, n8, hx0, hx31, hcs⟩
        · skip
          go_wp2_with fail
          refine (HWr.out _ _ (Below.trans HB3.out (HBr.out.mono HB3.out.size))).mono ?_
          rintro _ ur ⟨rfl, hb⟩
          have HBr2 := Lib.hid (Below.trans HBr.out (hb.mono HBr.out.size))
          have x2 := kc hb x0
          have hx2 := klt x2
          clear hb x0 hx
          rw [show isWr 27 = false from by decide]
          go_wp2
          go_roundg (q - (i + 1))
          case measure => omega
          case rel => exact ⟨i + 1, M - 1, by first | (go_num; done) | (rw [hw]; rfl), by first | (go_num; done) | (rw [hwm]; rfl), by omega, by omega, Lib.hid (by have h1 := HR.out; have h2 := HN1.out; rw [HRB.out] at h2; simp at h2; rw [h2]; omega), by have h1 := HR.out; have h3 := redN_le PL i; omega, by omega, HBr2⟩
        · skip
          go_wp2_with fail
          refine (HWr.out _ _ (Below.trans HB3.out (HBr.out.mono HB3.out.size))).mono ?_
          rintro _ ur ⟨rfl, hb⟩
          have HBr2 := Lib.hid (Below.trans HBr.out (hb.mono HBr.out.size))
          have x2 := kc hb x0
          have hx2 := klt x2
          clear hb x0 hx
          rw [show isWr 28 = false from by decide]
          go_wp2
          go_roundg (q - (i + 1))
          case measure => omega
          case rel => exact ⟨i + 1, M - 1, by first | (go_num; done) | (rw [hw]; rfl), by first | (go_num; done) | (rw [hwm]; rfl), by omega, by omega, Lib.hid (by have h1 := HR.out; have h2 := HN1.out; rw [HRB.out] at h2; simp at h2; rw [h2]; omega), by have h1 := HR.out; have h3 := redN_le PL i; omega, by omega, HBr2⟩
        · skip
          have hil1 : i - 1 < PL.length := by rw [HQ.out]; omega
          have hd0 : decide ((0 : Int) < (i : Int)) = true := decide_eq_true (by omega)
          have hw1 : IntKind.i64.wrap ((i : Int) - 1) = ((i - 1 : Nat) : Int) := by rw [IntWalk.i64_in _ (by omega)]; omega
          have hin1 : (0 : Int) ≤ ((i - 1 : Nat) : Int) ∧ ((i - 1 : Nat) : Int) < q := by omega
          have x1 := HC2.out (i - 1) _ (List.getElem?_eq_getElem hil1) 0 _ rfl
          rw [Nat.mul_one, Nat.add_zero] at x1
          have x1 := kc HBr.out x1
          have hx1 := klt x1
          have eP : PL.getD (i - 1) 0 = PL[i - 1] := by rw [List.getD_eq_getElem?_getD, List.getElem?_eq_getElem hil1]; rfl
          rw [eP] at HRB
          clear eP
          generalize PL[i - 1] = P at *
          clear hil1
          have HPos := Lib.hid hpos
          by_cases hP : P = 7
          · subst hP
            go_wp2_with fail
            refine (HWr.out _ _ (Below.trans HB3.out (HBr.out.mono HB3.out.size))).mono ?_
            rintro _ ur ⟨rfl, hb⟩
            have HBr2 := Lib.hid (Below.trans HBr.out (hb.mono HBr.out.size))
            have x2 := kc hb x0
            have hx2 := klt x2
            clear hb x0 hx
            rw [show isWr 8 = false from by decide]
            go_wp2
            go_roundg (q - (i + 1))
            case measure => omega
            case rel => exact ⟨i + 1, M - 1, by first | (go_num; done) | (rw [hw]; rfl), by first | (go_num; done) | (rw [hwm]; rfl), by omega, by omega, Lib.hid (by have h1 := HR.out; have h2 := HN1.out; rw [HRB.out] at h2; simp [HPos.out] at h2; rw [h2]; omega), by have h1 := HR.out; have h3 := redN_le PL i; omega, by omega, HBr2⟩
          · have hP' : (P == 7) = false := by simpa using hP
            go_wp2_with fail
            refine (HWr.out _ _ (Below.trans HB3.out (HBr.out.mono HB3.out.size))).mono ?_
            rintro _ ur ⟨rfl, hb⟩
            have HBr2 := Lib.hid (Below.trans HBr.out (hb.mono HBr.out.size))
            have x2 := kc hb x0
            have hx2 := klt x2
            clear hb x0 hx
            rw [show isWr 8 = false from by decide]
            go_wp2
            go_roundg (q - (i + 1))
            case measure => omega
            case rel => exact ⟨i + 1, M, by first | (go_num; done) | (rw [hw]; rfl), rfl, by omega, by omega, Lib.hid (by have h1 := HR.out; have h2 := HN1.out; rw [HRB.out] at h2; simp [hP'] at h2; rw [h2]; omega), by omega, by omega, HBr2⟩
        · skip
          have hg0 : decide (X < 0) = false := decide_eq_false (by omega)
          have hg31 : decide ((31 : Int) < X) = false := decide_eq_false (by omega)
          have n31 : (X == 31) = false := by rw [beq_eq_false_iff_ne]; omega
          rcases hcs with hX | ⟨hX, hK | hK | ⟨k2, k3, hS⟩⟩
          · skip
            go_wp2_with fail
            refine (HWr.out _ _ (Below.trans HB3.out (HBr.out.mono HB3.out.size))).mono ?_
            rintro _ ur ⟨rfl, hb⟩
            have HBr2 := Lib.hid (Below.trans HBr.out (hb.mono HBr.out.size))
            have x2 := kc hb x0
            have hx2 := klt x2
            clear hb x0 hx
            rw [hX]
            go_wp2
            go_roundg (q - (i + 1))
            case measure => omega
            case rel => exact ⟨i + 1, M, by first | (go_num; done) | (rw [hw]; rfl), rfl, by omega, by omega, Lib.hid (by have h1 := HR.out; have h2 := HN1.out; rw [HRB.out] at h2; simp [n27, n28, n8] at h2; rw [h2]; omega), by omega, by omega, HBr2⟩
          · skip
            have HK := Lib.hid hK
            clear hK
            go_wp2_with fail
            refine (HWr.out _ _ (Below.trans HB3.out (HBr.out.mono HB3.out.size))).mono ?_
            rintro _ ur ⟨rfl, hb⟩
            have HBr2 := Lib.hid (Below.trans HBr.out (hb.mono HBr.out.size))
            have x2 := kc hb x0
            have hx2 := klt x2
            clear hb x0 hx
            rw [hX]
            have y2 := HS2.out _ HBr2.out
            rw [HK.out] at y2
            have hy2 := klt y2
            have y0 := HS0.out _ HBr2.out
            have hy0 := klt y0
            go_wp2
            go_roundg (q - (i + 1))
            case measure => omega
            case rel => exact ⟨i + 1, M, by first | (go_num; done) | (rw [hw]; rfl), rfl, by omega, by omega, Lib.hid (by have h1 := HR.out; have h2 := HN1.out; rw [HRB.out] at h2; simp [n27, n28, n8] at h2; rw [h2]; omega), by omega, by omega, HBr2⟩
          · skip
            have HK := Lib.hid hK
            clear hK
            go_wp2_with fail
            refine (HWr.out _ _ (Below.trans HB3.out (HBr.out.mono HB3.out.size))).mono ?_
            rintro _ ur ⟨rfl, hb⟩
            have HBr2 := Lib.hid (Below.trans HBr.out (hb.mono HBr.out.size))
            have x2 := kc hb x0
            have hx2 := klt x2
            clear hb x0 hx
            rw [hX]
            have y2 := HS2.out _ HBr2.out
            rw [HK.out] at y2
            have hy2 := klt y2
            have y0 := HS0.out _ HBr2.out
            have hy0 := klt y0
            go_wp2
            go_roundg (q - (i + 1))
            case measure => omega
            case rel => exact ⟨i + 1, M, by first | (go_num; done) | (rw [hw]; rfl), rfl, by omega, by omega, Lib.hid (by have h1 := HR.out; have h2 := HN1.out; rw [HRB.out] at h2; simp [n27, n28, n8] at h2; rw [h2]; omega), by omega, by omega, HBr2⟩
          · have hSc := pushS_cases hS
            clear hS
            rcases hSc with s1 | ⟨s1, s2⟩ | ⟨s1, s2, s3⟩ | ⟨s1, s2, s3, s4⟩
            · obtain ⟨S2, hS2⟩ : ∃ S2, S = S2 := ⟨_, rfl⟩
              rw [hS2] at s1
              have HSS := Lib.hid hS2
              clear hS2
              obtain ⟨K2, hK2⟩ : ∃ K2, KD = K2 := ⟨_, rfl⟩
              rw [hK2] at k2 k3
              have HKK := Lib.hid hK2
              clear hK2
              have b2 : (K2 != 2) = true := by simpa [bne] using k2
              have b3 : (K2 != 3) = true := by simpa [bne] using k3
              go_wp2_with fail
              refine (HWr.out _ _ (Below.trans HB3.out (HBr.out.mono HB3.out.size))).mono ?_
              rintro _ ur ⟨rfl, hb⟩
              have HBr2 := Lib.hid (Below.trans HBr.out (hb.mono HBr.out.size))
              have x2 := kc hb x0
              have hx2 := klt x2
              clear hb x0 hx
              rw [hX]
              have y2 := HS2.out _ HBr2.out
              rw [HKK.out] at y2
              have hy2 := klt y2
              have y0 := HS0.out _ HBr2.out
              rw [HSS.out] at y0
              have hy0 := klt y0
              go_wp2
              go_roundg (q - (i + 1))
              case measure => omega
              case rel => exact ⟨i + 1, M, by first | (go_num; done) | (rw [hw]; rfl), rfl, by omega, by omega, Lib.hid (by have h1 := HR.out; have h2 := HN1.out; rw [HRB.out] at h2; simp [n27, n28, n8] at h2; rw [h2]; omega), by omega, by omega, HBr2⟩
            · obtain ⟨S2, hS2⟩ : ∃ S2, S = S2 := ⟨_, rfl⟩
              rw [hS2] at s1 s2
              have HSS := Lib.hid hS2
              clear hS2
              obtain ⟨K2, hK2⟩ : ∃ K2, KD = K2 := ⟨_, rfl⟩
              rw [hK2] at k2 k3
              have HKK := Lib.hid hK2
              clear hK2
              have b2 : (K2 != 2) = true := by simpa [bne] using k2
              have b3 : (K2 != 3) = true := by simpa [bne] using k3
              go_wp2_with fail
              refine (HWr.out _ _ (Below.trans HB3.out (HBr.out.mono HB3.out.size))).mono ?_
              rintro _ ur ⟨rfl, hb⟩
              have HBr2 := Lib.hid (Below.trans HBr.out (hb.mono HBr.out.size))
              have x2 := kc hb x0
              have hx2 := klt x2
              clear hb x0 hx
              rw [hX]
              have y2 := HS2.out _ HBr2.out
              rw [HKK.out] at y2
              have hy2 := klt y2
              have y0 := HS0.out _ HBr2.out
              rw [HSS.out] at y0
              have hy0 := klt y0
              go_wp2
              go_roundg (q - (i + 1))
              case measure => omega
              case rel => exact ⟨i + 1, M, by first | (go_num; done) | (rw [hw]; rfl), rfl, by omega, by omega, Lib.hid (by have h1 := HR.out; have h2 := HN1.out; rw [HRB.out] at h2; simp [n27, n28, n8] at h2; rw [h2]; omega), by omega, by omega, HBr2⟩
            · obtain ⟨S2, hS2⟩ : ∃ S2, S = S2 := ⟨_, rfl⟩
              rw [hS2] at s1 s2 s3
              have HSS := Lib.hid hS2
              clear hS2
              obtain ⟨K2, hK2⟩ : ∃ K2, KD = K2 := ⟨_, rfl⟩
              rw [hK2] at k2 k3
              have HKK := Lib.hid hK2
              clear hK2
              have b2 : (K2 != 2) = true := by simpa [bne] using k2
              have b3 : (K2 != 3) = true := by simpa [bne] using k3
              go_wp2_with fail
              refine (HWr.out _ _ (Below.trans HB3.out (HBr.out.mono HB3.out.size))).mono ?_
              rintro _ ur ⟨rfl, hb⟩
              have HBr2 := Lib.hid (Below.trans HBr.out (hb.mono HBr.out.size))
              have x2 := kc hb x0
              have hx2 := klt x2
              clear hb x0 hx
              rw [hX]
              have y2 := HS2.out _ HBr2.out
              rw [HKK.out] at y2
              have hy2 := klt y2
              have y0 := HS0.out _ HBr2.out
              rw [HSS.out] at y0
              have hy0 := klt y0
              go_wp2
              go_roundg (q - (i + 1))
              case measure => omega
              case rel => exact ⟨i + 1, M, by first | (go_num; done) | (rw [hw]; rfl), rfl, by omega, by omega, Lib.hid (by have h1 := HR.out; have h2 := HN1.out; rw [HRB.out] at h2; simp [n27, n28, n8] at h2; rw [h2]; omega), by omega, by omega, HBr2⟩
            · obtain ⟨S2, hS2⟩ : ∃ S2, S = S2 := ⟨_, rfl⟩
              rw [hS2] at s1 s2 s3 s4
              have HSS := Lib.hid hS2
              clear hS2
              obtain ⟨K2, hK2⟩ : ∃ K2, KD = K2 := ⟨_, rfl⟩
              rw [hK2] at k2 k3
              have HKK := Lib.hid hK2
              clear hK2
              have b2 : (K2 != 2) = true := by simpa [bne] using k2
              have b3 : (K2 != 3) = true := by simpa [bne] using k3
              go_wp2_with fail
              refine (HWr.out _ _ (Below.trans HB3.out (HBr.out.mono HB3.out.size))).mono ?_
              rintro _ ur ⟨rfl, hb⟩
              have HBr2 := Lib.hid (Below.trans HBr.out (hb.mono HBr.out.size))
              have x2 := kc hb x0
              have hx2 := klt x2
              clear hb x0 hx
              rw [hX]
              have y2 := HS2.out _ HBr2.out
              rw [HKK.out] at y2
              have hy2 := klt y2
              have y0 := HS0.out _ HBr2.out
              rw [HSS.out] at y0
              have hy0 := klt y0
              go_wp2
              go_roundg (q - (i + 1))
              case measure => omega
              case rel => exact ⟨i + 1, M, by first | (go_num; done) | (rw [hw]; rfl), rfl, by omega, by omega, Lib.hid (by have h1 := HR.out; have h2 := HN1.out; rw [HRB.out] at h2; simp [n27, n28, n8] at h2; rw [h2]; omega), by omega, by omega, HBr2⟩
      · obtain rfl : i = q := by omega
        have hd : decide (((i : Nat) : Int) < i) = false := by simp
        have HE := Lib.hid (show M = CV from by rw [HR.out]; exact HCY.out)
        clear HR HCY HST
        go_wp2_with fail
        refine (HC.out _ (Below.trans HB3.out (HBr.out.mono HB3.out.size))).mono ?_
        rintro _ ur ⟨rfl, hb⟩
        have HB4 := Lib.hid (Below.trans HB3.out ((Below.trans HBr.out (hb.mono HBr.out.size)).mono HB3.out.size))
        clear hb
        obtain rfl := HE.out
        clear HE
        go_wp2_with fail
        refine (HA.out _ HB4.out).mono ?_
        rintro _ z ⟨rfl, hb⟩
        have HZ := Lib.hid (Below.trans HB4.out (hb.mono (HB4.out).size))
        clear hb
        go_wp2
        go_ret
        exact ⟨rfl, HZ.out⟩
end Go.Proofs.YtcplegelppfdeaaDoor
